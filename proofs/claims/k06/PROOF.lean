import PyProof.Rows.All
import Wide.All
import OpenK.AllK
import Wide.FinOn
import Lean
import PySem.Challenge.RW_roadcall_k06_first_of_all_no_net
import PyProof.EqAt
import PyProof.EqKinds
import PyProof.TupleCall
import PyProof.NeKinds
import PyProof.EnumMake
import PyProof.EnumFor
import PyProof.ZipIter
import PyProof.Rows.ZipGen
import KE.KLam
import PyProof.DictItems
import KE.KTurnsDict
import KE.KPairComp
import KE.KDictList
set_option linter.all false
set_option Elab.async false
set_option maxRecDepth 100000
namespace My
open PySem PyProof.Rows
noncomputable def kA (s : Stmt) : Arguments := match s with
  | .FunctionDef _ a _ _ _ _ _ _ _ _ => a
  | _ => { posonlyargs := [], args := [], vararg := none, kwonlyargs := [], kw_defaults := [], kwarg := none, defaults := [] }
noncomputable def kB (s : Stmt) : List Stmt := match s with
  | .FunctionDef _ _ b _ _ _ _ _ _ _ => b
  | _ => []
noncomputable def kS (s : Stmt) : Scope := match s with
  | .FunctionDef _ _ _ _ _ _ sc _ _ _ => sc
  | _ => { kind := .function, names := [], isGenerator := false, isCoroutine := false }
noncomputable def vS (x : String) (t : Nat) : Value := .str (Str.ofString x) t
noncomputable def kE (P : Params) (x : String) (t : Nat) (v : Value) : DictEntry := ⟨PyData.keyHash P (Str.ofString x), vS x t, v⟩
noncomputable def kF (i : Nat) (x : String) (d m : Value) (c : Nat) : Obj := let st := PySem.Challenge.pw_roadcall_k06_first_of_all_no_net.main.body.getD i (.Pass ⟨0, 0, 0, 0⟩); ⟨.type "function", none, .func (PySem.W.fnOf (Str.ofString x) (Str.ofString x) (kA st) (kB st) (kS st) d .none .none m none (.ref c) .none), #[]⟩
noncomputable def kC (x : String) (t : Nat) (l n f : Int) (a : Nat) (b : Bool) (m : Int) (p : Nat) (u z : Value) (q : Nat) (e : Int) (t2 : Nat) : Obj := ⟨.type "code", none, .fields #[vS x t, vS x (t + 1), vS "/claim/cut.py" (t + 2), .int l 0, .int n 0, .int 0 0, .int 0 0, .int f 0, .ref a, .bool b, .int m 0, .ref p, .none, u, z, .ref q, .int e 0, .int l 0, vS "/claim/cut.py" t2], #[]⟩
noncomputable def kK (P : Params) : PySem.W.Frag := [(2, ⟨.none, none, .dict [].toArray 0, #[]⟩),
  (3, ⟨.type "dict", none, .dict [kE P "__name__" 165 (vS "law_roadcall_k06_first_of_all_no_net" 737), kE P "__doc__" 166 .none, kE P "__package__" 167 .none, kE P "__loader__" 168 (.builtin "__main__.__loader__#opaque"), kE P "__spec__" 169 .none, kE P "__annotations__" 170 (.ref 6), kE P "__builtins__" 171 (.ref 4), kE P "__file__" 173 (vS "/claim/cut.py" 172), kE P "__cached__" 174 .none, kE P "RoadError" 206 (.ref 24), kE P "NoNet" 222 (.ref 37), kE P "NoPlace" 238 (.ref 49), kE P "NoSign" 254 (.ref 61), kE P "NoWord" 270 (.ref 73), kE P "NoWhole" 286 (.ref 85), kE P "NoNumber" 302 (.ref 97), kE P "NoKin" 318 (.ref 109), kE P "NoSet" 334 (.ref 121), kE P "TooMany" 350 (.ref 133), kE P "is_whole" 359 (.ref 142), kE P "is_whole_below" 367 (.ref 149), kE P "common_divisor" 375 (.ref 156), kE P "SIGNS" 379 (vS "abc" 378), kE P "MOST_PLACES" 381 (.int 9 380), kE P "MOST_SIGNS_OF_WORD" 383 (.int 2000 382), kE P "is_row" 393 (.ref 163), kE P "is_net" 402 (.ref 170), kE P "need_net" 409 (.ref 177), kE P "signs_of" 416 (.ref 184), kE P "all_places" 423 (.ref 191), kE P "is_place" 431 (.ref 198), kE P "need_place" 439 (.ref 205), kE P "is_sign" 447 (.ref 212), kE P "need_sign" 455 (.ref 219), kE P "is_word" 464 (.ref 226), kE P "need_word" 472 (.ref 233), kE P "MOST_SETS" 476 (.int 511 475), kE P "end_of" 486 (.ref 240), kE P "led" 495 (.ref 247), kE P "first_met" 510 (.ref 255), kE P "first_words" 519 (.ref 262), kE P "way" 528 (.ref 269), kE P "parts" 534 (.ref 274), kE P "hangs_together" 541 (.ref 281), kE P "need_whole" 548 (.ref 288), kE P "beat" 556 (.ref 293), kE P "same_roads" 564 (.ref 298), kE P "arrangements" 575 (.ref 305), kE P "signings" 584 (.ref 312), kE P "number_of" 594 (.ref 319), kE P "signing" 606 (.ref 326), kE P "swapped" 618 (.ref 333), kE P "exchanged" 629 (.ref 340), kE P "row_exchanges" 635 (.ref 345), kE P "exchanges" 646 (.ref 352), kE P "MOST_MAPS" 650 (.int 500 649), kE P "all_maps" 656 (.ref 357), kE P "road_counts" 664 (.ref 362), kE P "without_last" 670 (.ref 367), kE P "shrunk" 676 (.ref 372), kE P "weights" 682 (.ref 377), kE P "is_set" 693 (.ref 384), kE P "need_set" 701 (.ref 391), kE P "image" 707 (.ref 396), kE P "map_of" 717 (.ref 403), kE P "left" 725 (.ref 410), kE P "comes_round" 736 (.ref 417), kE P "_law_bag" 749 (.ref 424), kE P "_law_take" 760 (.ref 431), kE P "_law_order" 771 (.ref 438), kE P "_law_net" 777 (.ref 443), kE P "_law_spoilt" 783 (.ref 448), kE P "_law_answer" 794 (.ref 455), kE P "law" 807 (.ref 462)].toArray 74, #[]⟩),
  (23, ⟨.type "dict", none, .dict [kE P "__module__" 196 (vS "roadcall.errors" 187), kE P "__firstlineno__" 200 (.int 2 199), kE P "__static_attributes__" 201 (.ref 22), kE P "__weakref__" 203 (.ref 25), kE P "__doc__" 204 .none].toArray 3, #[]⟩),
  (24, ⟨.type "type", none, .cls { name := Str.ofString "RoadError", bases := [.type "ValueError"], mro := [.ref 24, .type "ValueError", .type "Exception", .type "BaseException", .type "object"], ns := 23, qualname := Str.ofString "RoadError", subclasses := [.ref 37, .ref 49, .ref 61, .ref 73, .ref 85, .ref 97, .ref 109, .ref 121, .ref 133] }, #[some (.ref 15), none, some (vS "RoadError" 189), some (vS "RoadError" 197), some (.builtin "ValueError.__new__"), some (.bool true)]⟩),
  (36, ⟨.type "dict", none, .dict [kE P "__module__" 214 (vS "roadcall.errors" 187), kE P "__firstlineno__" 218 (.int 4 217), kE P "__static_attributes__" 219 (.ref 35), kE P "__doc__" 220 .none].toArray 2, #[]⟩),
  (37, ⟨.type "type", none, .cls { name := Str.ofString "NoNet", bases := [.ref 24], mro := [.ref 37, .ref 24, .type "ValueError", .type "Exception", .type "BaseException", .type "object"], ns := 36, qualname := Str.ofString "NoNet", subclasses := [] }, #[some (.ref 28), none, some (vS "NoNet" 207), some (vS "NoNet" 215), some (.builtin "ValueError.__new__"), some (.bool true)]⟩),
  (48, ⟨.type "dict", none, .dict [kE P "__module__" 230 (vS "roadcall.errors" 187), kE P "__firstlineno__" 234 (.int 6 233), kE P "__static_attributes__" 235 (.ref 47), kE P "__doc__" 236 .none].toArray 2, #[]⟩),
  (49, ⟨.type "type", none, .cls { name := Str.ofString "NoPlace", bases := [.ref 24], mro := [.ref 49, .ref 24, .type "ValueError", .type "Exception", .type "BaseException", .type "object"], ns := 48, qualname := Str.ofString "NoPlace", subclasses := [] }, #[some (.ref 40), none, some (vS "NoPlace" 223), some (vS "NoPlace" 231), some (.builtin "ValueError.__new__"), some (.bool true)]⟩),
  (60, ⟨.type "dict", none, .dict [kE P "__module__" 246 (vS "roadcall.errors" 187), kE P "__firstlineno__" 250 (.int 8 249), kE P "__static_attributes__" 251 (.ref 59), kE P "__doc__" 252 .none].toArray 2, #[]⟩),
  (61, ⟨.type "type", none, .cls { name := Str.ofString "NoSign", bases := [.ref 24], mro := [.ref 61, .ref 24, .type "ValueError", .type "Exception", .type "BaseException", .type "object"], ns := 60, qualname := Str.ofString "NoSign", subclasses := [] }, #[some (.ref 52), none, some (vS "NoSign" 239), some (vS "NoSign" 247), some (.builtin "ValueError.__new__"), some (.bool true)]⟩),
  (72, ⟨.type "dict", none, .dict [kE P "__module__" 262 (vS "roadcall.errors" 187), kE P "__firstlineno__" 266 (.int 10 265), kE P "__static_attributes__" 267 (.ref 71), kE P "__doc__" 268 .none].toArray 2, #[]⟩),
  (73, ⟨.type "type", none, .cls { name := Str.ofString "NoWord", bases := [.ref 24], mro := [.ref 73, .ref 24, .type "ValueError", .type "Exception", .type "BaseException", .type "object"], ns := 72, qualname := Str.ofString "NoWord", subclasses := [] }, #[some (.ref 64), none, some (vS "NoWord" 255), some (vS "NoWord" 263), some (.builtin "ValueError.__new__"), some (.bool true)]⟩),
  (84, ⟨.type "dict", none, .dict [kE P "__module__" 278 (vS "roadcall.errors" 187), kE P "__firstlineno__" 282 (.int 12 281), kE P "__static_attributes__" 283 (.ref 83), kE P "__doc__" 284 .none].toArray 2, #[]⟩),
  (85, ⟨.type "type", none, .cls { name := Str.ofString "NoWhole", bases := [.ref 24], mro := [.ref 85, .ref 24, .type "ValueError", .type "Exception", .type "BaseException", .type "object"], ns := 84, qualname := Str.ofString "NoWhole", subclasses := [] }, #[some (.ref 76), none, some (vS "NoWhole" 271), some (vS "NoWhole" 279), some (.builtin "ValueError.__new__"), some (.bool true)]⟩),
  (96, ⟨.type "dict", none, .dict [kE P "__module__" 294 (vS "roadcall.errors" 187), kE P "__firstlineno__" 298 (.int 14 297), kE P "__static_attributes__" 299 (.ref 95), kE P "__doc__" 300 .none].toArray 2, #[]⟩),
  (97, ⟨.type "type", none, .cls { name := Str.ofString "NoNumber", bases := [.ref 24], mro := [.ref 97, .ref 24, .type "ValueError", .type "Exception", .type "BaseException", .type "object"], ns := 96, qualname := Str.ofString "NoNumber", subclasses := [] }, #[some (.ref 88), none, some (vS "NoNumber" 287), some (vS "NoNumber" 295), some (.builtin "ValueError.__new__"), some (.bool true)]⟩),
  (108, ⟨.type "dict", none, .dict [kE P "__module__" 310 (vS "roadcall.errors" 187), kE P "__firstlineno__" 314 (.int 16 313), kE P "__static_attributes__" 315 (.ref 107), kE P "__doc__" 316 .none].toArray 2, #[]⟩),
  (109, ⟨.type "type", none, .cls { name := Str.ofString "NoKin", bases := [.ref 24], mro := [.ref 109, .ref 24, .type "ValueError", .type "Exception", .type "BaseException", .type "object"], ns := 108, qualname := Str.ofString "NoKin", subclasses := [] }, #[some (.ref 100), none, some (vS "NoKin" 303), some (vS "NoKin" 311), some (.builtin "ValueError.__new__"), some (.bool true)]⟩),
  (120, ⟨.type "dict", none, .dict [kE P "__module__" 326 (vS "roadcall.errors" 187), kE P "__firstlineno__" 330 (.int 18 329), kE P "__static_attributes__" 331 (.ref 119), kE P "__doc__" 332 .none].toArray 2, #[]⟩),
  (121, ⟨.type "type", none, .cls { name := Str.ofString "NoSet", bases := [.ref 24], mro := [.ref 121, .ref 24, .type "ValueError", .type "Exception", .type "BaseException", .type "object"], ns := 120, qualname := Str.ofString "NoSet", subclasses := [] }, #[some (.ref 112), none, some (vS "NoSet" 319), some (vS "NoSet" 327), some (.builtin "ValueError.__new__"), some (.bool true)]⟩),
  (132, ⟨.type "dict", none, .dict [kE P "__module__" 342 (vS "roadcall.errors" 187), kE P "__firstlineno__" 346 (.int 20 345), kE P "__static_attributes__" 347 (.ref 131), kE P "__doc__" 348 .none].toArray 2, #[]⟩),
  (133, ⟨.type "type", none, .cls { name := Str.ofString "TooMany", bases := [.ref 24], mro := [.ref 133, .ref 24, .type "ValueError", .type "Exception", .type "BaseException", .type "object"], ns := 132, qualname := Str.ofString "TooMany", subclasses := [] }, #[some (.ref 124), none, some (vS "TooMany" 335), some (vS "TooMany" 343), some (.builtin "ValueError.__new__"), some (.bool true)]⟩),
  (141, kC "is_whole" 353 23 1 3 136 true 181 137 (.ref 138) (.ref 139) 140 357 358),
  (142, kF 12 "is_whole" .none (vS "roadcall.whole" 351) 141),
  (148, kC "is_whole_below" 360 25 2 3 143 true 181 144 (.ref 145) (.ref 146) 147 365 366),
  (149, kF 13 "is_whole_below" .none (vS "roadcall.whole" 351) 148),
  (155, kC "common_divisor" 368 27 2 3 150 true 181 151 (.ref 152) (.ref 153) 154 373 374),
  (156, kF 14 "common_divisor" .none (vS "roadcall.whole" 351) 155),
  (162, kC "is_row" 384 36 3 3 157 true 181 158 (.ref 159) (.ref 160) 161 391 392),
  (163, kF 19 "is_row" .none (vS "roadcall.nets" 376) 162),
  (169, kC "is_net" 394 40 1 3 164 true 181 165 (.ref 166) (.ref 167) 168 400 401),
  (170, kF 20 "is_net" .none (vS "roadcall.nets" 376) 169),
  (176, kC "need_net" 403 48 1 3 171 true 181 172 (.ref 173) (.ref 174) 175 407 408),
  (177, kF 21 "need_net" .none (vS "roadcall.nets" 376) 176),
  (183, kC "signs_of" 410 51 1 3 178 true 181 179 (.ref 180) (.ref 181) 182 414 415),
  (184, kF 22 "signs_of" .none (vS "roadcall.nets" 376) 183),
  (190, kC "all_places" 417 54 1 3 185 true 181 186 (.ref 187) (.ref 188) 189 421 422),
  (191, kF 23 "all_places" .none (vS "roadcall.nets" 376) 190),
  (197, kC "is_place" 424 56 2 3 192 true 181 193 (.ref 194) (.ref 195) 196 429 430),
  (198, kF 24 "is_place" .none (vS "roadcall.nets" 376) 197),
  (204, kC "need_place" 432 58 2 3 199 true 181 200 (.ref 201) (.ref 202) 203 437 438),
  (205, kF 25 "need_place" .none (vS "roadcall.nets" 376) 204),
  (211, kC "is_sign" 440 61 2 3 206 true 181 207 (.ref 208) (.ref 209) 210 445 446),
  (212, kF 26 "is_sign" .none (vS "roadcall.nets" 376) 211),
  (218, kC "need_sign" 448 63 2 3 213 true 181 214 (.ref 215) (.ref 216) 217 453 454),
  (219, kF 27 "need_sign" .none (vS "roadcall.nets" 376) 218),
  (225, kC "is_word" 456 66 2 3 220 true 181 221 (.ref 222) (.ref 223) 224 462 463),
  (226, kF 28 "is_word" .none (vS "roadcall.nets" 376) 225),
  (232, kC "need_word" 465 71 2 3 227 true 181 228 (.ref 229) (.ref 230) 231 470 471),
  (233, kF 29 "need_word" .none (vS "roadcall.nets" 376) 232),
  (239, kC "end_of" 477 76 3 3 234 true 181 235 (.ref 236) (.ref 237) 238 484 485),
  (240, kF 32 "end_of" .none (vS "roadcall.ways" 473) 239),
  (246, kC "led" 487 80 3 3 241 true 181 242 (.ref 243) (.ref 244) 245 493 494),
  (247, kF 33 "led" .none (vS "roadcall.ways" 473) 246),
  (248, ⟨.type "tuple", none, .seq #[.int 511 475] 0, #[]⟩),
  (254, kC "first_met" 496 85 4 3 249 true 181 250 (.ref 251) (.ref 252) 253 508 509),
  (255, kF 34 "first_met" (.ref 248) (vS "roadcall.ways" 473) 254),
  (261, kC "first_words" 511 96 2 3 256 true 181 257 (.ref 258) (.ref 259) 260 517 518),
  (262, kF 35 "first_words" .none (vS "roadcall.ways" 473) 261),
  (268, kC "way" 520 98 3 3 263 true 181 264 (.ref 265) (.ref 266) 267 526 527),
  (269, kF 36 "way" .none (vS "roadcall.ways" 473) 268),
  (273, kC "parts" 529 103 1 3 270 true 181 271 .none .none 272 532 533),
  (274, kF 37 "parts" .none (vS "roadcall.ways" 473) 273),
  (280, kC "hangs_together" 535 112 1 3 275 true 181 276 (.ref 277) (.ref 278) 279 539 540),
  (281, kF 38 "hangs_together" .none (vS "roadcall.ways" 473) 280),
  (287, kC "need_whole" 542 114 1 3 282 true 181 283 (.ref 284) (.ref 285) 286 546 547),
  (288, kF 39 "need_whole" .none (vS "roadcall.ways" 473) 287),
  (292, kC "beat" 551 118 1 3 289 true 181 290 .none .none 291 554 555),
  (293, kF 41 "beat" .none (vS "roadcall.beats" 549) 292),
  (297, kC "same_roads" 559 128 2 3 294 true 181 295 .none .none 296 562 563),
  (298, kF 43 "same_roads" .none (vS "roadcall.signings" 557) 297),
  (304, kC "arrangements" 565 132 1 3 299 true 181 300 (.ref 301) (.ref 302) 303 573 574),
  (305, kF 44 "arrangements" .none (vS "roadcall.signings" 557) 304),
  (311, kC "signings" 576 140 1 3 306 true 181 307 (.ref 308) (.ref 309) 310 582 583),
  (312, kF 45 "signings" .none (vS "roadcall.signings" 557) 311),
  (318, kC "number_of" 585 146 1 3 313 true 181 314 (.ref 315) (.ref 316) 317 592 593),
  (319, kF 46 "number_of" .none (vS "roadcall.signings" 557) 318),
  (325, kC "signing" 595 153 2 3 320 true 181 321 (.ref 322) (.ref 323) 324 604 605),
  (326, kF 47 "signing" .none (vS "roadcall.signings" 557) 325),
  (332, kC "swapped" 609 163 3 3 327 true 181 328 (.ref 329) (.ref 330) 331 616 617),
  (333, kF 49 "swapped" .none (vS "roadcall.exchanges" 607) 332),
  (339, kC "exchanged" 619 167 4 3 334 true 181 335 (.ref 336) (.ref 337) 338 627 628),
  (340, kF 50 "exchanged" .none (vS "roadcall.exchanges" 607) 339),
  (344, kC "row_exchanges" 630 176 3 3 341 true 181 342 .none .none 343 633 634),
  (345, kF 51 "row_exchanges" .none (vS "roadcall.exchanges" 607) 344),
  (351, kC "exchanges" 636 186 2 3 346 true 181 347 (.ref 348) (.ref 349) 350 644 645),
  (352, kF 52 "exchanges" .none (vS "roadcall.exchanges" 607) 351),
  (356, kC "all_maps" 651 195 1 3 353 true 181 354 .none .none 355 654 655),
  (357, kF 55 "all_maps" .none (vS "roadcall.maps" 647) 356),
  (361, kC "road_counts" 659 202 1 3 358 true 181 359 .none .none 360 662 663),
  (362, kF 57 "road_counts" .none (vS "roadcall.weights" 657) 361),
  (366, kC "without_last" 665 204 1 3 363 true 181 364 .none .none 365 668 669),
  (367, kF 58 "without_last" .none (vS "roadcall.weights" 657) 366),
  (371, kC "shrunk" 671 208 1 3 368 true 181 369 .none .none 370 674 675),
  (372, kF 59 "shrunk" .none (vS "roadcall.weights" 657) 371),
  (376, kC "weights" 677 213 1 3 373 true 181 374 .none .none 375 680 681),
  (377, kF 60 "weights" .none (vS "roadcall.weights" 657) 376),
  (383, kC "is_set" 685 226 2 3 378 true 181 379 (.ref 380) (.ref 381) 382 691 692),
  (384, kF 62 "is_set" .none (vS "roadcall.words" 683) 383),
  (390, kC "need_set" 694 230 2 3 385 true 181 386 (.ref 387) (.ref 388) 389 699 700),
  (391, kF 63 "need_set" .none (vS "roadcall.words" 683) 390),
  (395, kC "image" 702 233 3 3 392 true 181 393 .none .none 394 705 706),
  (396, kF 64 "image" .none (vS "roadcall.words" 683) 395),
  (402, kC "map_of" 708 238 2 3 397 true 181 398 (.ref 399) (.ref 400) 401 715 716),
  (403, kF 65 "map_of" .none (vS "roadcall.words" 683) 402),
  (409, kC "left" 718 242 2 3 404 true 181 405 (.ref 406) (.ref 407) 408 723 724),
  (410, kF 66 "left" .none (vS "roadcall.words" 683) 409),
  (416, kC "comes_round" 726 244 2 3 411 true 181 412 (.ref 413) (.ref 414) 415 734 735),
  (417, kF 67 "comes_round" .none (vS "roadcall.words" 683) 416),
  (423, kC "_law_bag" 739 253 2 3 418 true 181 419 (.ref 420) (.ref 421) 422 747 748),
  (424, kF 69 "_law_bag" .none (vS "law_roadcall_k06_first_of_all_no_net" 737) 423),
  (430, kC "_law_take" 750 263 2 3 425 true 181 426 (.ref 427) (.ref 428) 429 758 759),
  (431, kF 70 "_law_take" .none (vS "law_roadcall_k06_first_of_all_no_net" 737) 430),
  (437, kC "_law_order" 761 275 2 3 432 true 181 433 (.ref 434) (.ref 435) 436 769 770),
  (438, kF 71 "_law_order" .none (vS "law_roadcall_k06_first_of_all_no_net" 737) 437),
  (442, kC "_law_net" 772 281 2 3 439 true 181 440 .none .none 441 775 776),
  (443, kF 72 "_law_net" .none (vS "law_roadcall_k06_first_of_all_no_net" 737) 442),
  (447, kC "_law_spoilt" 778 303 2 3 444 true 181 445 .none .none 446 781 782),
  (448, kF 73 "_law_spoilt" .none (vS "law_roadcall_k06_first_of_all_no_net" 737) 447),
  (454, kC "_law_answer" 784 315 4 3 449 true 181 450 (.ref 451) (.ref 452) 453 792 793),
  (455, kF 74 "_law_answer" .none (vS "law_roadcall_k06_first_of_all_no_net" 737) 454),
  (461, kC "law" 795 340 1 3 456 true 181 457 (.ref 458) (.ref 459) 460 805 806),
  (462, kF 75 "law" .none (vS "law_roadcall_k06_first_of_all_no_net" 737) 461)]
noncomputable def JH : List Addr := [2, 3, 23, 24, 36, 37, 48, 49, 60, 61, 72, 73, 84, 85, 96, 97, 108, 109, 120, 121, 132, 133, 141, 142, 148, 149, 155, 156, 162, 163, 169, 170, 176, 177, 183, 184, 190, 191, 197, 198, 204, 205, 211, 212, 218, 219, 225, 226, 232, 233, 239, 240, 246, 247, 248, 254, 255, 261, 262, 268, 269, 273, 274, 280, 281, 287, 288, 292, 293, 297, 298, 304, 305, 311, 312, 318, 319, 325, 326, 332, 333, 339, 340, 344, 345, 351, 352, 356, 357, 361, 362, 366, 367, 371, 372, 376, 377, 383, 384, 390, 391, 395, 396, 402, 403, 409, 410, 416, 417, 423, 424, 430, 431, 437, 438, 442, 443, 447, 448, 454, 455, 461, 462]
noncomputable def kq : Program := PySem.W.view PySem.Challenge.pw_roadcall_k06_first_of_all_no_net [1, 2, 3, 4, 5, 6, 7, 8, 9, 10, 12, 13, 14, 16, 17, 18, 19, 20, 21, 22, 23, 24, 25, 26, 27, 28, 29, 31, 32, 33, 35, 36, 37, 38, 39, 41, 43, 44, 45, 46, 47, 49, 50, 51, 52, 54, 55, 57, 58, 59, 60, 62, 63, 64, 65, 66, 67, 69, 70, 71, 72, 73, 74, 75]
noncomputable def kL : List Str := [Str.ofString "first_met"]
noncomputable def kH : PySem.W.Hook := PySem.W.kHook kK JH fun _ => by kernel_rfl
theorem z6 {r : PySem.W.OpenRow} {q : Program} {loose : List Str} {H : PySem.W.Hook} {d : DefRec} {BI : List (Str × Expr)} {N : Nat} (left : PySem.W.LeftO r.prog q loose (fun s => PySem.W.xlAt q [] s && PySem.W.recOk r.records s) H.obs H.val N)
    (HZ : PySem.W.defOf q r.name = some (d, BI)) (hp : r.prog.theDef r.name = some (d.params, d.body, d.scope)) (hk : PySem.W.kwWritten? d.params.kwonlyargs d.params.kw_defaults = some BI) (JI : (!r.writes || r.records.isEmpty) = true) (k1 : r.wellSaid = true)
    (ok : (PySem.W.chainsOk q && PySem.W.opensWell r.prog && (PySem.W.frees r.toRowW && r.within.isEmpty)) = true) (hb : r.prog.bare) (hw : r.toRowW.promised) (call : PySem.W.WalkO q loose (PySem.W.XL q []) H.says r.toRowW d BI fun f vs => PySem.call f vs) : r.Holds :=
  PySem.W.holds_open left H.of H.keeps (fun s e => PySem.W.xl_of s (Bool.and_eq_true_iff.mp e).1) PySem.W.XL.keeps HZ hp hk (fun s e => PySem.W.recFacts_of (Bool.and_eq_true_iff.mp e).2) JI k1 ok hb hw call
noncomputable def oeQ (p : Program) (w : World) (N : Nat) : Option Shared := ((PySem.W.Fast.tw10274390034422433532 PySem.W.Fast.tw14364793385576792824 (PySem.W.opening p) w N (PySem.W.Fast.tw1435165496053646825 (PySem.W.opening p)).1 (PySem.W.Fast.tw1435165496053646825 (PySem.W.opening p)).2).bind (PySem.W.Fast.tw14289696077712309145 p)).bind fun s₀ => match s₀.heap.isNs PySem.mainGlobals && s₀.gens.size == 0 with
  | true => (PySem.W.Fast.tw14082659384304107361 PySem.W.Fast.tw14364793385576792824 p w s₀.heap.objs.size (s₀.heap.nsMap PySem.mainGlobals "__annotations__") N s₀ (PySem.W.topStub p)).bind fun aw => match PySem.W.staticsOk (importedModules p.main.body) s₀.heap aw.heap && PySem.W.namesBound p aw.heap && PySem.W.gensDone aw && PySem.W.laidKept s₀.heap aw.heap with
      | true => some aw
      | false => none
  | false => none
theorem Fp (p : Program) (w : World) (N : Nat) : PySem.W.openEnds treeTable p w N = oeQ p w N := by
  unfold oeQ
  rw [← PySem.W.Fast.te10274390034422433532, ← PySem.W.Fast.te14364793385576792824, ← PySem.W.Fast.te1435165496053646825, ← PySem.W.Fast.te14289696077712309145, ← PySem.W.Fast.te14082659384304107361]
  rfl
noncomputable def nsQ (q : Program) : List Str := (PySem.W.Fast.tw3399658132070893891 q).map (·.name)
theorem yV (q : Program) : (recsOf q).map (·.name) = nsQ q := by unfold nsQ; rw [← PySem.W.Fast.te3399658132070893891]
noncomputable def c1Q (s : Shared) := PySem.W.Fast.tw5160383126252970620 (nsQ kq) (PySem.W.Fast.tw5991557255702980513 kq) [] { s with gens := #[] }
theorem Fq (s : Shared) : seen ((recsOf kq).map (·.name)) (ownsOf kq) [] { s with gens := #[] } = c1Q s := by unfold c1Q; rw [yV, ← PySem.W.Fast.te5160383126252970620, ← PySem.W.Fast.te5991557255702980513]
noncomputable def c2 (s : Shared) := (s.heap.bltView, s.heap.keysOk (PySem.W.looseW kq kL) ((recsOf kq).map (·.name)) ((litsOf kq).map (·.1)) ((clssOf kq (PySem.W.looseW kq kL)).map (·.name)) && s.heap.accountedOkI (importedModules PySem.Challenge.pw_roadcall_k06_first_of_all_no_net.main.body) && s.heap.isNs mainGlobals && s.heap.isNs builtinsNs && tablesOk kq s.heap && (PySem.W.xlAt kq [] s && PySem.W.recOk [] s) && (s.gens.size == 0))
noncomputable def c2Q (s : Shared) := (s.heap.bltView, PySem.W.Fast.tw10880121769531294198 s.heap (PySem.W.Fast.tw821141287760084731 kq kL) (nsQ kq) ((PySem.W.Fast.tw7409074990110511671 kq).map (·.1)) ((PySem.W.Fast.tw13664370479719496447 kq (PySem.W.Fast.tw821141287760084731 kq kL)).map (·.name)) && PySem.W.Fast.tw14722251495701143533 s.heap (importedModules PySem.Challenge.pw_roadcall_k06_first_of_all_no_net.main.body) && s.heap.isNs mainGlobals && s.heap.isNs builtinsNs && PySem.W.Fast.tw10994771534591457954 kq s.heap && (PySem.W.xlAt kq [] s && PySem.W.recOk [] s) && (s.gens.size == 0))
theorem Fs (s : Shared) : c2 s = c2Q s := by unfold c2 c2Q; rw [yV, ← PySem.W.Fast.te10880121769531294198, ← PySem.W.Fast.te821141287760084731, ← PySem.W.Fast.te7409074990110511671, ← PySem.W.Fast.te13664370479719496447, ← PySem.W.Fast.te14722251495701143533, ← PySem.W.Fast.te10994771534591457954]
noncomputable def c3 (s : Shared) := (tabsOk kq s, PySem.pinSeenD kq (drecsOf kq) s, plainSeenE kq (PySem.W.looseW kq kL) s, plainSeenD kq kL s, PySem.W.wideSeen kq s, PySem.W.clsSeenW kq kL s)
noncomputable def c3Q (s : Shared) := (PySem.W.Fast.tw479339242167458305 kq s, PySem.W.Fast.tw16090120013241838585 kq (PySem.W.Fast.tw3247288618530077131 kq) s, PySem.W.Fast.tw2386780881361962483 kq (PySem.W.Fast.tw821141287760084731 kq kL) s, PySem.W.Fast.tw11698064438423848299 kq kL s, PySem.W.Fast.tw7317090234206586261 kq s, PySem.W.Fast.tw7369524293546568484 kq kL s)
theorem Ft (s : Shared) : c3 s = c3Q s := by unfold c3 c3Q; rw [← PySem.W.Fast.te479339242167458305, ← PySem.W.Fast.te16090120013241838585, ← PySem.W.Fast.te3247288618530077131, ← PySem.W.Fast.te2386780881361962483, ← PySem.W.Fast.te821141287760084731, ← PySem.W.Fast.te11698064438423848299, ← PySem.W.Fast.te7317090234206586261, ← PySem.W.Fast.te7369524293546568484]
set_option maxHeartbeats 0 in
theorem left0 (w : World) : (oeQ PySem.Challenge.pw_roadcall_k06_first_of_all_no_net w 7632).map (fun s => kH.obs s) = some (kH.val w) := by kernel_rfl
set_option maxHeartbeats 0 in
theorem left1 (w : World) : (oeQ PySem.Challenge.pw_roadcall_k06_first_of_all_no_net w 7632).map c1Q = some (expectedOf kq) := by kernel_rfl
set_option maxHeartbeats 0 in
theorem left2 (w : World) : (oeQ PySem.Challenge.pw_roadcall_k06_first_of_all_no_net w 7632).map c2Q = some (bltViewBooted, true) := by kernel_rfl
set_option maxHeartbeats 0 in
theorem left3 (w : World) : (oeQ PySem.Challenge.pw_roadcall_k06_first_of_all_no_net w 7632).map c3Q = some (true, PySem.pinGoodD (drecsOf kq), plainGoodE kq (PySem.W.looseW kq kL), plainGoodD kq kL, PySem.W.wideGood kq, PySem.W.clsGoodW kq kL) := by kernel_rfl
theorem left (w : World) : (PySem.W.openEnds treeTable PySem.Challenge.pw_roadcall_k06_first_of_all_no_net w 7632).map (fun s => (PySem.W.openSeen kq kL (importedModules PySem.Challenge.pw_roadcall_k06_first_of_all_no_net.main.body) (fun s => PySem.W.xlAt kq [] s && PySem.W.recOk [] s) true s, kH.obs s)) = some (PySem.W.openGood kq kL, kH.val w) := by
  rw [Fp]
  have a0 := left0 w
  have a1 := left1 w
  have a2 := left2 w
  have a3 := left3 w
  revert a0 a1 a2 a3
  generalize oeQ PySem.Challenge.pw_roadcall_k06_first_of_all_no_net w 7632 = o
  cases o with
  | none => intro a0; cases a0
  | some s =>
    intro a0 a1 a2 a3
    have a0 : kH.obs s = kH.val w := Option.some.inj a0
    have a1 := Option.some.inj a1
    have a2 := Option.some.inj a2
    have a3 := Option.some.inj a3
    rw [← Fq] at a1
    rw [← Fs] at a2
    rw [← Ft] at a3
    show some ((seen ((recsOf kq).map (·.name)) (ownsOf kq) [] { s with gens := #[] }, (c2 s).1, (c2 s).2, c3 s), kH.obs s) = _
    rw [a0, a1, a2, a3]
    rfl
end My
namespace L2
open PySem PySem.Spec PyProof.Rows
noncomputable abbrev Key := Sum Int Str
noncomputable def yW : Key → Value → Bool
  | .inl k, v => Value.isInt k v
  | .inr x, v => Value.isStrOf x v
noncomputable def Ia (w : World) : Key → Int
  | .inl k => hashInt k
  | .inr x => hashStr w x
theorem bX : ∀ {k : Key} {v : Value}, yW k v = true → (∃ i t, k = Sum.inl i ∧ v = Value.int i t) ∨ (∃ x t, k = Sum.inr x ∧ v = Value.str x t)
  | .inl i, v, h => by
    obtain ⟨t, e⟩ := Value.isInt_shape (k := i) (v := v) h
    exact .inl ⟨i, t, rfl, e⟩
  | .inr x, v, h => by
    obtain ⟨t, e⟩ := Value.isStrOf_shape (x := x) (v := v) h
    exact .inr ⟨x, t, rfl, e⟩
theorem BJ (a b : Int) : decide ((Sum.inl a : Key) = Sum.inl b) = (a == b) := by
  by_cases e : a = b
  · subst e; simp
  · have h : ¬ (Sum.inl a : Key) = Sum.inl b := fun q => e (Sum.inl.inj q)
    rw [decide_eq_false h]
    exact (beq_eq_false_iff_ne.mpr e).symm
theorem BK (a b : Str) : decide ((Sum.inr a : Key) = Sum.inr b) = decide (a = b) := by
  by_cases e : a = b
  · subst e; simp
  · have h : ¬ (Sum.inr a : Key) = Sum.inr b := fun q => e (Sum.inr.inj q)
    rw [decide_eq_false h, decide_eq_false e]
theorem BL (a : Int) (b : Str) : decide ((Sum.inl a : Key) = Sum.inr b) = false := decide_eq_false (fun q => nomatch q)
theorem BM (a : Str) (b : Int) : decide ((Sum.inr a : Key) = Sum.inl b) = false := decide_eq_false (fun q => nomatch q)
noncomputable def mX (prog : Program) (w : World) : PySem.KeyKind prog w Key where
  is := yW
  hash := Ia w
  inj := fun v a b ha hb => by
    rcases bX ha with ⟨i, t, rfl, rfl⟩ | ⟨x, t, rfl, rfl⟩
    · rcases bX hb with ⟨j, u, rfl, e⟩ | ⟨y, u, rfl, e⟩
      · injection e with e1 _; rw [e1]
      · exact nomatch e
    · rcases bX hb with ⟨j, u, rfl, e⟩ | ⟨y, u, rfl, e⟩
      · exact nomatch e
      · injection e with e1 _; rw [e1]
  byValue := fun k v h => by
    rcases bX h with ⟨i, t, rfl, rfl⟩ | ⟨x, t, rfl, rfl⟩ <;> rfl
  pyHash := fun hv h => by
    rcases bX hv with ⟨i, t, rfl, rfl⟩ | ⟨x, t, rfl, rfl⟩
    · exact wpAny_pyHash_int h
    · exact wpAny_pyHash_str h
  eqBool := fun hu hv h => by
    rcases bX hu with ⟨i, t, rfl, rfl⟩ | ⟨x, t, rfl, rfl⟩
    · rcases bX hv with ⟨j, u, rfl, rfl⟩ | ⟨y, u, rfl, rfl⟩
      · rw [BJ] at h; exact wpAny_eqBool_int h
      · rw [BL] at h; exact SeqAt.EqAt.int_str i t y u _ _ _ _ h
    · rcases bX hv with ⟨j, u, rfl, rfl⟩ | ⟨y, u, rfl, rfl⟩
      · rw [BM] at h; exact SeqAt.EqAt.str_int x t j u _ _ _ _ h
      · rw [BK] at h; exact wpAny_eqBool_str h
  «strs» := fun k x t v h => by
    rcases bX h with ⟨i, u, rfl, e⟩ | ⟨y, u, rfl, e⟩
    · exact nomatch e
    · injection e with e1 _
      subst e1
      cases v <;> rfl
inductive V where
  | aC | bl (b : Bool) | int (i : Int) | str (x : Str) | gL (b : Array UInt8) | so (b : UInt64) | ref (a : Addr) | ty (n : String)
  deriving DecidableEq
noncomputable def RelV : V → Value → Prop
  | .aC, u => u = Value.none
  | .bl b, u => u = Value.bool b
  | .int i, u => ∃ t, u = Value.int i t
  | .str x, u => ∃ t, u = Value.str x t
  | .gL b, u => ∃ t, u = Value.bytes b t
  | .so b, u => ∃ t, u = Value.float b t
  | .ref a, u => u = Value.ref a
  | .ty n, u => u = Value.type n
noncomputable abbrev Vals : List V → List Value → Prop := Paired RelV
theorem Vals.length {xs : List V} {us : List Value} (r : Vals xs us) : xs.length = us.length := Paired.length r
theorem Vals.get : ∀ {xs : List V} {us : List Value} {i : Nat} {x : V}, Vals xs us → xs[i]? = some x → ∃ u, us[i]? = some u ∧ RelV x u
  | _, _, _, _, .nil, e => by simp at e
  | _, _, 0, _, .cons r _, e => by simp at e; subst e; exact ⟨_, rfl, r⟩
  | _, _, i + 1, x, .cons _ t, e => by
    obtain ⟨u, h1, h2⟩ := Vals.get (i := i) (x := x) t (by simpa using e)
    exact ⟨u, by simpa using h1, h2⟩
theorem Vals.set {x : V} {u : Value} (r : RelV x u) : ∀ {xs : List V} {us : List Value} (i : Nat), Vals xs us → Vals (xs.set i x) (us.set i u)
  | _, _, _, .nil => .nil
  | _, _, 0, .cons _ t => .cons r t
  | _, _, i + 1, .cons q t => .cons q (Vals.set r i t)
theorem Vals.append : ∀ {xs ys : List V} {us ws : List Value}, Vals xs us → Vals ys ws → Vals (xs ++ ys) (us ++ ws)
  | _, _, _, _, .nil, s => s
  | _, _, _, _, .cons r t, s => .cons r (Vals.append t s)
theorem Vals.take : ∀ {xs : List V} {us : List Value} (n : Nat), Vals xs us → Vals (xs.take n) (us.take n)
  | _, _, 0, _ => .nil
  | _, _, _ + 1, .nil => .nil
  | _, _, n + 1, .cons r t => .cons r (Vals.take n t)
theorem Vals.drop : ∀ {xs : List V} {us : List Value} (n : Nat), Vals xs us → Vals (xs.drop n) (us.drop n)
  | _, _, 0, r => r
  | _, _, _ + 1, .nil => .nil
  | _, _, n + 1, .cons _ t => Vals.drop n t
noncomputable def w6 : Option V → Option Value → Prop
  | some v, some u => RelV v u
  | none, none => True
  | _, _ => False
noncomputable def KV {κ : Type} : List (κ × V) → List (κ × Value) → Prop := Paired fun (p : κ × V) (q : κ × Value) => p.1 = q.1 ∧ RelV p.2 q.2
noncomputable def kV : Key → V
  | .inl i => .int i
  | .inr x => .str x
inductive HO where
  | lst (xs : List V)
  | tup (xs : List V)
  | dK (bL : List (Key × V)) | dT (bL : List (List Key × V))
  | set (S : Int → Bool) (n : Nat)
  | ins (C dx : Addr) (fs : List (Str × V))
  | own (x : Addr)
  | xd (fs : List (Str × V))
  | met (f x : Addr)
  | yX (lo hi : Int)
  | eD (o : Obj) (u : HO)
  | b6 (ps : Array Value)
  | lam (ps : Array Value)
  | ext (φ : Heap → Prop)
noncomputable abbrev Hp := Addr → Option HO
noncomputable def upd (H : Hp) (a : Addr) (o : HO) : Hp := fun b => if b = a then some o else H b
theorem aP {H : Hp} {a : Addr} {o : HO} : upd H a o a = some o := by unfold upd; rw [if_pos rfl]
theorem ao {H : Hp} {a b : Addr} {o : HO} (h : b ≠ a) : upd H a o b = H b := by unfold upd; rw [if_neg h]
theorem Fu {H : Hp} {a b : Addr} {o u : HO} (h : H a = some o) (h' : H b = some u) (d : o ≠ u) : a ≠ b := by
  intro e; subst e; rw [h] at h'; exact d (Option.some.inj h')
theorem bh {H : Hp} {a b : Addr} {o : HO} (h : H a = some o) (h' : H b = none) : a ≠ b := by
  intro e; subst e; rw [h] at h'; cases h'
section
variable (P : Program) (w : World)
noncomputable def gm (h : Heap) (a : Addr) (items : Array Value) : Prop := ∃ o, h.get? a = some o ∧ o.cls = .type "tuple" ∧ ∃ n, o.data = .seq items n ∧ o.dict = none
theorem gm.tup {h : Heap} {a : Addr} {items : Array Value} (x : gm h a items) : IsTup h a items := let ⟨o, e, c, n, d, _⟩ := x; ⟨o, e, c, n, d⟩
theorem gm.lt {h : Heap} {a : Addr} {items : Array Value} (x : gm h a items) : a < h.objs.size := x.tup.lt
theorem gm.new (h : Heap) (items : Array Value) : gm (h.push { cls := .type "tuple", data := .seq items }) h.objs.size items := ⟨_, Heap.get?_push_size _ rfl, rfl, _, rfl, rfl⟩
noncomputable def bt (H : Hp) (h : Heap) (a : Addr) : HO → Prop
  | .lst xs => xs.length ≤ sizeLine ∧ ∃ (its : List Value) (n : Nat), Vals xs its ∧ h.get? a = some { cls := .type "list", data := .seq its.toArray n }
  | .tup xs => xs.length ≤ sizeLine ∧ ∃ its : List Value, Vals xs its ∧ gm h a its.toArray
  | .dK bL => bL.length ≤ sizeLine ∧ (a == sysModules) = false ∧ ∃ vs, KV bL vs ∧ h.DictOf (mX P w) a vs
  | .dT bL => bL.length ≤ sizeLine ∧ (a == sysModules) = false ∧ ∃ xs : List (List Key × Addr × Value),
      Paired (fun (p : List Key × V) (q : List Key × Addr × Value) => p.1 = q.1 ∧ H q.2.1 = some (.tup (p.1.map kV)) ∧ RelV p.2 q.2.2) bL xs ∧
      ∃ o es ep, h.get? a = some o ∧ o.ExactDict ∧ o.data = .dict es ep ∧ es.toList = xs.map (entryOfKey (tupleKind (mX P w))) ∧ (xs.map (·.1)).Nodup
  | .set S n => h.SetOf (intKind P w) a S n
  | .ins C dx fs => H dx = some (.own a) ∧ fs.length ≤ 1000 ∧ dx ≠ a ∧ h.get? a = some (PySem.W.instObj C dx) ∧
      ∃ mA, h.Ns1 dx mA ∧ (∀ f, w6 (fs.lookup f) (mA f)) ∧ PySem.Within mA (fs.map (·.1))
  | .own _ => ∃ o, h.get? a = some o
  | .xd fs => ∃ mA, h.Ns1 a mA ∧ ∀ f, w6 (fs.lookup f) (mA f)
  | .yX lo hi => ∃ t u v, h.get? a = some { cls := .type "range", data := .fields #[.int lo t, .int hi u, .int 1 v] }
  | .eD o u => h.get? a = some o ∧ bt H h a u
  | .b6 ps => h.get? a = some { cls := .none, data := .fields ps }
  | .lam ps => h.get? a = some { cls := .none, data := .fields ps }
  | .met f x => h.get? a = some (PySem.W.methodObj (.ref f) (.ref x))
  | .ext φ => φ h ∧ (∃ o, h.get? a = some o) ∧ ∀ h1 h2 : Heap, φ h1 → (∀ o, h1.get? a = some o → h2.get? a = some o) → φ h2
noncomputable def da (H : Hp) (h : Heap) : Prop := ∀ a o, H a = some o → bt P w H h a o
end
section
variable {P : Program} {w : World} {H H' : Hp} {h h' : Heap} {a : Addr} {o : HO}
theorem bt.lt (x : bt P w H h a o) : a < h.objs.size := by
  cases o with
  | lst xs => obtain ⟨_, _, _, _, e⟩ := x; exact Heap.lt_size e
  | tup xs => obtain ⟨_, _, _, p⟩ := x; exact p.lt
  | dK bL => obtain ⟨_, _, _, _, o, _, _, e, _⟩ := x; exact Heap.lt_size e
  | dT bL => obtain ⟨_, _, _, _, o, _, _, e, _⟩ := x; exact Heap.lt_size e
  | set S n => obtain ⟨o, _, _, _, e, _⟩ := x; exact Heap.lt_size e
  | ins C dx fs => obtain ⟨_, _, _, e, _⟩ := x; exact Heap.lt_size e
  | own y => obtain ⟨_, e⟩ := x; exact Heap.lt_size e
  | xd fs => obtain ⟨_, ⟨_, _, _, e, _⟩, _⟩ := x; exact Heap.lt_size e
  | yX lo hi => obtain ⟨_, _, _, e⟩ := x; exact Heap.lt_size e
  | eD ob u => obtain ⟨e, _⟩ := x; exact Heap.lt_size e
  | b6 ps => exact Heap.lt_size (show h.get? a = some _ from x)
  | lam ps => exact Heap.lt_size (show h.get? a = some _ from x)
  | met f y => exact Heap.lt_size (show h.get? a = some _ from x)
  | ext φ => obtain ⟨_, ⟨_, e⟩, _⟩ := x; exact Heap.lt_size e
theorem Paired.BO {α β : Type} {F G : α → β → Prop} : ∀ {BP : List α} {BQ : List β}, Paired F BP BQ → (∀ a b, F a b → G a b) → Paired G BP BQ
  | _, _, .nil, _ => .nil
  | _, _, .cons r t, f => .cons (f _ _ r) (Paired.BO t f)
theorem bt.eJ (x : bt P w H h a o) (k : ∀ b u, (b = a ∨ H b = some (.own a)) → h.get? b = some u → h'.get? b = some u)
    (ho : ∀ b, H b = some (.own a) → H' b = some (.own a)) (ht : ∀ b xs, H b = some (.tup xs) → H' b = some (.tup xs)) : bt P w H' h' a o := by
  induction o with
  | lst xs => obtain ⟨z, its, n, r, e⟩ := x; exact ⟨z, its, n, r, k _ _ (.inl rfl) e⟩
  | tup xs => obtain ⟨z, its, r, ob, e, c⟩ := x; exact ⟨z, its, r, ob, k _ _ (.inl rfl) e, c⟩
  | dK bL => obtain ⟨z, y, vs, r, ob, es, ep, e, c⟩ := x; exact ⟨z, y, vs, r, ob, es, ep, k _ _ (.inl rfl) e, c⟩
  | dT bL =>
    obtain ⟨z, y, xs, r, ob, es, ep, e, c⟩ := x
    exact ⟨z, y, xs, Paired.BO r fun p q z => ⟨z.1, ht _ _ z.2.1, z.2.2⟩, ob, es, ep, k _ _ (.inl rfl) e, c⟩
  | set S n => obtain ⟨ob, es, ep, t, e, c⟩ := x; exact ⟨ob, es, ep, t, k _ _ (.inl rfl) e, c⟩
  | ins C dx fs =>
    obtain ⟨d, z, ne, e, mA, ⟨od, es, ep, e2, c⟩, r⟩ := x
    exact ⟨ho _ d, z, ne, k _ _ (.inl rfl) e, mA, ⟨od, es, ep, k _ _ (.inr d) e2, c⟩, r⟩
  | own y => obtain ⟨ob, e⟩ := x; exact ⟨ob, k _ _ (.inl rfl) e⟩
  | xd fs => obtain ⟨mA, ⟨od, es, ep, e, c⟩, r⟩ := x; exact ⟨mA, ⟨od, es, ep, k _ _ (.inl rfl) e, c⟩, r⟩
  | yX lo hi => obtain ⟨t, u, v, e⟩ := x; exact ⟨t, u, v, k _ _ (.inl rfl) e⟩
  | eD ob u ih => obtain ⟨e, q⟩ := x; exact ⟨k _ _ (.inl rfl) e, ih q⟩
  | b6 ps =>
    have e : h.get? a = some { cls := .none, data := .fields ps } := x
    show h'.get? a = some { cls := .none, data := .fields ps }
    exact k a _ (.inl rfl) e
  | lam ps =>
    have e : h.get? a = some { cls := .none, data := .fields ps } := x
    show h'.get? a = some { cls := .none, data := .fields ps }
    exact k a _ (.inl rfl) e
  | met f y =>
    have e : h.get? a = some (PySem.W.methodObj (.ref f) (.ref y)) := x
    show h'.get? a = some (PySem.W.methodObj (.ref f) (.ref y))
    exact k a _ (.inl rfl) e
  | ext φ => obtain ⟨p, ⟨o, e⟩, st⟩ := x; exact ⟨st _ _ p fun o q => k _ _ (.inl rfl) q, ⟨o, k _ _ (.inl rfl) e⟩, st⟩
theorem da.lt (x : da P w H h) (e : H a = some o) : a < h.objs.size := (x a o e).lt
theorem da.fresh (x : da P w H h) (e : h.objs.size ≤ a) : H a = none := by
  cases q : H a with
  | none => rfl
  | some u => exact absurd (Nat.lt_of_lt_of_le (x.lt q) e) (Nat.lt_irrefl _)
theorem da.kept (x : da P w H h) (k : ∀ b u, h.get? b = some u → h'.get? b = some u) : da P w H h' := fun a o e =>
  (x a o e).eJ (fun b u _ q => k b u q) (fun _ q => q) fun _ _ q => q
theorem da.laid (x : da P w H h) (k : ∀ b u, h.get? b = some u → h'.get? b = some u) (hp : h.objs.size ≤ a) (new : bt P w (upd H a o) h' a o) : da P w (upd H a o) h' := fun b u e => by
  have hn := x.fresh hp
  by_cases hb : b = a
  · subst hb; rw [aP] at e; cases e; exact new
  · rw [ao hb] at e
    exact (x b u e).eJ (fun c v _ q => k c v q) (fun c q => by rw [ao (bh q hn)]; exact q) fun c xs q => by rw [ao (bh q hn)]; exact q
end
noncomputable def Rd (H : Hp) (a : Addr) (u : HO) : Prop := H a = some u ∨ ∃ o, H a = some (.eD o u)
theorem Rd.ok {P : Program} {w : World} {H : Hp} {h : Heap} {a : Addr} {u : HO} (r : Rd H a u) (x : da P w H h) : bt P w H h a u := by
  rcases r with r | ⟨o, r⟩
  · exact x a u r
  · obtain ⟨_, q⟩ := x a _ r
    exact q
noncomputable def yY : Option HO → Prop
  | some (.lst _) => True
  | some (.dK _) => True
  | some (.dT _) => True
  | some (.set _ _) => True
  | some (.ins _ _ _) => True
  | some (.ext _) => True
  | some (.lam _) => True
  | _ => False
section
variable {P : Program} {w : World} {H : Hp} {h h' : Heap} {x e : Addr} {o' : HO}
theorem da.write (ok : da P w H h) (mu : yY (H x)) (he : e = x ∨ H e = some (.own x)) (k : ∀ b u, b ≠ e → h.get? b = some u → h'.get? b = some u) (sq : ∃ u, h'.get? e = some u)
    (new : bt P w (upd H x o') h' x o') : da P w (upd H x o') h' := fun b u q => by
  have BR : ∀ c y, H c = some (.own y) → c ≠ x := fun c y r z => by subst z; rw [r] at mu; exact mu
  have Ib : ∀ c xs, H c = some (.tup xs) → c ≠ x := fun c xs r z => by subst z; rw [r] at mu; exact mu
  by_cases hb : b = x
  · subst hb; rw [aP] at q; cases q; exact new
  · rw [ao hb] at q
    by_cases pE : b = e
    · have q' : H b = some (.own x) := by
        rcases he with z | z
        · exact absurd (pE.trans z) hb
        · rw [pE]; exact z
      rw [q] at q'; cases q'
      obtain ⟨v, hv⟩ := sq
      exact ⟨v, by rw [pE]; exact hv⟩
    · refine (ok b u q).eJ (fun c v hc r => k c v ?_ r) (fun c r => by rw [ao (BR c b r)]; exact r) fun c xs r => by rw [ao (Ib c xs r)]; exact r
      rcases hc with rfl | hc
      · exact pE
      · rintro rfl
        rcases he with z | z
        · exact BR c b hc z
        · rw [hc] at z; cases z; exact hb rfl
end
structure Un (fs ex : List Addr) (H H' : Hp) (h h' : Heap) : Prop where
  keep : ∀ b o, h.get? b = some o → H b = none → b ∉ fs → b ∉ ex → h'.get? b = some o
  slot : ∀ b o, h.get? b = some o → H b = none → b ∈ fs → b ∉ ex → ∃ sl, h'.get? b = some { o with slots := sl }
  free : ∀ b o, h.get? b = some o → H b = none → b ∉ ex → H' b = none
  there : ∀ b o, h.get? b = some o → b ∉ ex → ∃ o', h'.get? b = some o'
  tups : ∀ b xs, H b = some (.tup xs) → H' b = some (.tup xs)
  frzs : ∀ b o u, H b = some (.eD o u) → H' b = some (.eD o u)
  tbls : ∀ b ps, H b = some (.b6 ps) → ∃ more, H' b = some (.b6 (ps ++ more))
section
variable {fs JK ex LW : List Addr} {H H1 H2 : Hp} {h h1 h2 h' : Heap} {a x e : Addr} {o : HO}
theorem Un.any (u : Un fs ex H H1 h h1) {b : Addr} {ob : Obj} (q : h.get? b = some ob) (n : H b = none) (hx : b ∉ ex) : ∃ sl, h1.get? b = some { ob with slots := sl } := by
  by_cases hb : b ∈ fs
  · exact u.slot b ob q n hb hx
  · exact ⟨ob.slots, u.keep b ob q n hb hx⟩
theorem Un.kept (k : ∀ b u, h.get? b = some u → h'.get? b = some u) : Un fs ex H H h h' :=
  ⟨fun b ob q _ _ _ => k b ob q, fun b ob q _ _ _ => ⟨ob.slots, k b ob q⟩, fun _ _ _ n _ => n, fun b ob q _ => ⟨ob, k b ob q⟩, fun _ _ q => q, fun _ _ _ q => q, fun _ ps q => ⟨#[], by rw [q]; simp⟩⟩
theorem Un.refl : Un fs ex H H h h := Un.kept fun _ _ q => q
theorem Un.laid (k : ∀ b u, h.get? b = some u → h'.get? b = some u) (hp : h.objs.size ≤ a) (hn : H a = none) : Un fs ex H (upd H a o) h h' where
  keep := fun b u q _ _ _ => k b u q
  slot := fun b u q _ _ _ => ⟨u.slots, k b u q⟩
  free := fun b u q n _ => by rw [ao (Nat.ne_of_lt (Nat.lt_of_lt_of_le (Heap.lt_size q) hp))]; exact n
  there := fun b u q _ => ⟨u, k b u q⟩
  tups := fun b xs q => by rw [ao (bh q hn)]; exact q
  frzs := fun b u xs q => by rw [ao (bh q hn)]; exact q
  tbls := fun b ps q => ⟨#[], by rw [ao (bh q hn), q]; simp⟩
theorem Un.write (mu : yY (H x)) (he : e = x ∨ H e = some (.own x)) (k : ∀ b u, b ≠ e → h.get? b = some u → h'.get? b = some u) (sq : ∃ u, h'.get? e = some u) : Un fs ex H (upd H x o) h h' := by
  have hx : ∀ b, H b = none → b ≠ x := fun b n z => by subst z; rw [n] at mu; exact mu
  have hb : ∀ b, H b = none → b ≠ e := fun b n z => by
    subst z
    rcases he with r | r
    · exact hx b n r
    · rw [n] at r; cases r
  have hm : ∀ b u, H b = some u → ¬ yY (some u) → b ≠ x := fun b u q nm z => by subst z; rw [q] at mu; exact nm mu
  refine ⟨fun b u q n _ _ => k b u (hb b n) q, fun b u q n _ _ => ⟨u.slots, k b u (hb b n) q⟩, fun b u q n _ => by rw [ao (hx b n)]; exact n, fun b u q _ => ?_,
    fun b xs q => by rw [ao (hm b _ q fun z => z)]; exact q, fun b u xs q => by rw [ao (hm b _ q fun z => z)]; exact q, fun b ps q => ⟨#[], by rw [ao (hm b _ q fun z => z), q]; simp⟩⟩
  by_cases pE : b = e
  · subst pE; exact sq
  · exact ⟨u, k b u pE q⟩
end
noncomputable def yZ (h : Heap) (H : Hp) : List Addr := (List.range h.objs.size).filter fun a => (H a).isSome
noncomputable def gM (h : Heap) (H : Hp) : Heap := PySem.W.hideAll h (yZ h H)
theorem uK (h : Heap) (H : Hp) : (gM h H).objs.size = h.objs.size := PySem.W.hideAll_size _ _
theorem w9 {h : Heap} {H : Hp} {b : Addr} {o : Obj} (e : h.get? b = some o) (n : H b = none) : (gM h H).get? b = some o :=
  PySem.W.hideAll_get _ e fun hm => by
    have q : (H b).isSome = true := (List.mem_filter.mp hm).2
    rw [n] at q; simp at q
theorem z7 {h : Heap} {H : Hp} {b : Addr} {o : Obj} (e : (gM h H).get? b = some o) : h.get? b = some o ∧ H b = none := by
  have e' : h.get? b = some o := PySem.W.of_hideAll (yZ h H) e
  refine ⟨e', ?_⟩
  cases q : H b with
  | none => rfl
  | some x =>
    have hm : b ∈ yZ h H := List.mem_filter.mpr ⟨List.mem_range.mpr (Heap.lt_size e'), by simp [q]⟩
    have z : (gM h H).get? b = none := PySem.W.hideAll_none (yZ h H) hm
    rw [z] at e; cases e
noncomputable def z8 (g h : Heap) (L : Addr) : List (Addr × Obj) := (List.range h.objs.size).filterMap fun a => if a = L ∨ (g.get? a).isSome = true then none else (h.get? a).map fun o => (a, o)
noncomputable def rest (g h : Heap) (L d : Addr) : List (Addr × Obj) := (z8 g h L).filter fun p => decide (p.1 ≠ d)
structure Mod (K : PySem.W.Frag) (mg : Str → Option Value) (base : Heap) : Prop where
  kin : K.In base
  glob : base.Ns mainGlobals mg
  blt : ∃ mb, base.Ns builtinsNs mb ∧ ∀ x : Str, x ≠ "__name__" → mb x = bootBuiltins x
  nolimit : base.NoLimit
structure Cx where
  prog : Program
  w : World
  K : PySem.W.Frag
  mg : Str → Option Value
  base : Heap
  A : Around
  N : List Str
  s₀ : Shared
  H₀ : Hp
  env : Env
  outer : List Env
  stack : List Env
  ex : List Addr
  fn : Str → Bool
  calm : Bool
  pn : List (Addr × Obj)
  xe : Value → Shared → Prop
noncomputable def eE (l : List Env) : List Addr := l.filterMap (·.frame)
noncomputable abbrev Cx.fs (X : Cx) : List Addr := eE X.outer
noncomputable def pF (sc : Scope) (x : Str) : Prop := sc.names.lookup x = some .local ∨ sc.names.lookup x = some .cell ∨ sc.names.lookup x = some .free
noncomputable def Loc (sc : Scope) (x : Str) : Prop := sc.names.lookup x = some .local ∨ sc.names.lookup x = some .cell
noncomputable def Look (env : Env) (h : Heap) (m : Str → Option Value) (x : Str) (u : Value) : Prop :=
  (env.kindOf x = some .local ∧ m x = some u) ∨ ((env.kindOf x = some .cell ∨ env.kindOf x = some .free) ∧ ∃ c, env.cells.lookup x = some c ∧ h.IsCell c (some u))
structure Cx.Ok (X : Cx) : Prop where
  mod : Mod X.K X.mg X.base
  kind : X.env.scope.kind = .function
  glob : X.env.globals = mainGlobals
  blt : X.env.builtins = builtinsNs
  above : X.s₀.heap.objs.size ≤ X.env.locals
  inj : ∀ x y c, X.env.cells.lookup x = some c → X.env.cells.lookup y = some c → x = y
  has : ∀ x, (X.env.kindOf x = some .cell ∨ X.env.kindOf x = some .free) → ∃ c, X.env.cells.lookup x = some c
  cab : ∀ x c, X.fn x = true → X.env.cells.lookup x = some c → X.s₀.heap.objs.size ≤ c
  hd : X.calm = true → X.A.handled = none
  frames : X.A.frames = some X.stack
  stk : X.stack = X.outer ∨ (X.stack = X.env :: X.outer ∧ X.env.frame = some X.env.locals)
  exf : ∀ b ∈ X.ex, b ≠ X.env.locals ∧ ∀ x c, X.env.cells.lookup x = some c → c ≠ b
  bs : ∀ b o, X.base.get? b = some o → X.s₀.heap.get? b = some o ∧ X.H₀ b = none
  bsz : X.base.objs.size ≤ X.s₀.heap.objs.size
  noex : ∀ b o, X.base.get? b = some o → b ∉ X.ex
  exfs : ∀ b ∈ X.ex, b ∉ X.fs
  funs : X.s₀.heap.FunFrames X.base X.outer
  frf : ∀ b ∈ X.fs, X.H₀ b = none
noncomputable def Gn (n : Nat) (g : Array GenState) : Prop := AllBare g ∧ n ≤ g.size
theorem Gn.self {n : Nat} {g : Array GenState} (x : Gn n g) : Gn g.size g := ⟨x.1, Nat.le_refl _⟩
theorem Gn.trans {n : Nat} {g g' : Array GenState} (x : Gn n g) (y : Gn g.size g') : Gn n g' := ⟨y.1, Nat.le_trans x.2 y.2⟩
structure Inv (X : Cx) (pins : List (Addr × Obj)) (σ : List (Option V)) (H : Hp) (s : Shared) : Prop where
  ok : X.Ok
  os : s.os = X.s₀.os
  bare : Gn X.s₀.gens.size s.gens
  base : Un X.fs X.ex X.H₀ H X.s₀.heap s.heap
  loc : ∃ m, s.heap.Ns X.env.locals m ∧ ∀ (i : Nat) (x : Str) (v : V), X.N[i]? = some x → σ[i]? = some (some v) → pF X.env.scope x → ∃ u, RelV v u ∧ Look X.env s.heap m x u
  cell : ∀ x c, X.env.cells.lookup x = some c → ∃ v, s.heap.IsCell c v
  free : H X.env.locals = none
  freeC : ∀ x c, X.env.cells.lookup x = some c → H c = none
  pin : ∀ p ∈ X.pn ++ pins, s.heap.get? p.1 = some p.2 ∧ H p.1 = none ∧ p.1 ≠ X.env.locals ∧ p.1 ∉ X.fs ∧ ∀ v, p.2.data ≠ .cell v
  hok : da X.prog X.w H s.heap
  len : σ.length = X.N.length
section
variable {X : Cx} {pins : List (Addr × Obj)} {σ : List (Option V)} {H H' : Hp} {s : Shared} {h' : Heap}
theorem Cx.Ok.Ic (ok : X.Ok) {b : Addr} {o : Obj} (e : X.base.get? b = some o) : b ∉ X.fs := fun hb => by
  have := (ok.funs.mem hb).1
  rw [e] at this; cases this
theorem Inv.bs (I : Inv X pins σ H s) : ∀ b o, X.base.get? b = some o → s.heap.get? b = some o ∧ H b = none := fun b o e =>
  ⟨I.base.keep b o (I.ok.bs b o e).1 (I.ok.bs b o e).2 (I.ok.Ic e) (I.ok.noex b o e), I.base.free b o (I.ok.bs b o e).1 (I.ok.bs b o e).2 (I.ok.noex b o e)⟩
theorem Inv.bk (I : Inv X pins σ H s) : ∀ b o, X.base.get? b = some o → s.heap.get? b = some o := fun b o e => (I.bs b o e).1
theorem Inv.mod (I : Inv X pins σ H s) : Mod X.K X.mg X.base := I.ok.mod
theorem Inv.eF (I : Inv X pins σ H s) : X.K.In s.heap := I.ok.mod.kin.keeps I.bk
theorem Inv.nolimit (I : Inv X pins σ H s) : s.heap.NoLimit := I.ok.mod.nolimit.keeps I.bk
theorem Inv.lt (I : Inv X pins σ H s) : X.env.locals < s.heap.objs.size := let ⟨_, hn, _⟩ := I.loc; hn.lt
theorem Inv.sz (I : Inv X pins σ H s) : X.s₀.heap.objs.size ≤ s.heap.objs.size := Nat.le_trans I.ok.above (Nat.le_of_lt I.lt)
theorem Inv.BU (I : Inv X pins σ H s) {a : Addr} (h : s.heap.objs.size ≤ a) : a ∉ X.fs := fun hb => by
  obtain ⟨_, o, ho, _⟩ := I.ok.funs.mem hb
  exact absurd (Nat.lt_of_lt_of_le (Heap.lt_size ho) (Nat.le_trans I.sz h)) (Nat.lt_irrefl _)
theorem Inv.nS (I : Inv X pins σ H s) : ∀ x c, X.env.cells.lookup x = some c → c ≠ X.env.locals := fun x c e z => by
  obtain ⟨v, o, ho, hd⟩ := I.cell x c e
  obtain ⟨m, ⟨o', es, ep, gN, y3, _⟩, _⟩ := I.loc
  rw [z, gN] at ho; cases ho; rw [y3] at hd; cases hd
theorem Inv.funs (I : Inv X pins σ H s) : s.heap.FunFrames X.base X.outer := by
  have all : ∀ (l : List Env), (∀ b ∈ eE l, b ∈ X.fs) → X.s₀.heap.FunFrames X.base l → s.heap.FunFrames X.base l := by
    intro l
    induction l with
    | nil => intro _ _; trivial
    | cons env r ih =>
      intro hs hl
      obtain ⟨hk, ⟨L, o, hf, hn, ho, hd⟩, hr⟩ := hl
      have hL : L ∈ X.fs := hs L (by unfold eE; rw [List.filterMap_cons, hf]; exact List.mem_cons_self)
      obtain ⟨sl, e⟩ := I.base.slot L o ho (I.ok.frf L hL) hL fun z => I.ok.exfs L z hL
      exact ⟨hk, ⟨L, _, hf, hn, e, hd⟩, ih (fun b hb => hs b (by unfold eE; rw [List.filterMap_cons, hf]; exact List.mem_cons_of_mem _ hb)) hr⟩
  exact all X.outer (fun _ hb => hb) I.ok.funs
theorem Inv.stack (I : Inv X pins σ H s) : s.heap.FunFrames X.base X.stack := by
  rcases I.ok.stk with e | ⟨e, hf⟩
  · rw [e]; exact I.funs
  · rw [e]
    obtain ⟨m, hn, _⟩ := I.loc
    refine .cons (by rw [I.ok.kind]; decide) hf hn ?_ I.funs
    exact Heap.get?_none_of_le (Nat.le_trans I.ok.bsz I.ok.above)
theorem Inv.gO (I : Inv X pins σ H s) : ∀ b ∈ eE X.stack, b ∈ X.env.locals :: X.fs := fun b hb => by
  rcases I.ok.stk with e | ⟨e, hf⟩
  · rw [e] at hb; exact List.mem_cons_of_mem _ hb
  · rw [e] at hb
    unfold eE at hb
    rw [List.filterMap_cons, hf] at hb
    exact hb
theorem Inv.mY (I : Inv X pins σ H s) : ∀ b ∈ eE X.stack, H b = none := fun b hb => by
  rcases List.mem_cons.mp (I.gO b hb) with e | hb
  · rw [e]; exact I.free
  · obtain ⟨_, o, ho, _⟩ := I.ok.funs.mem hb
    exact I.base.free b o ho (I.ok.frf b hb) fun z => I.ok.exfs b z hb
theorem Inv.step {g' : Array GenState} {t' : Nat} {d' : Drawn} {ch : List Addr} (I : Inv X pins σ H s)
    (kJ : ∀ b ∈ ch, (b ∈ X.ex ∨ X.s₀.heap.objs.size ≤ b) ∧ b ≠ X.env.locals ∧ (∀ x c, X.env.cells.lookup x = some c → c ≠ b) ∧ ∀ p ∈ X.pn ++ pins, p.1 ≠ b)
    (keep : ∀ b o, b ≠ X.env.locals → b ∉ X.fs → b ∉ ch → s.heap.get? b = some o → H b = none → h'.get? b = some o)
    (slot : ∀ b o, b ≠ X.env.locals → b ∈ X.fs → b ∉ ch → s.heap.get? b = some o → H b = none → ∃ sl, h'.get? b = some { o with slots := sl }) (free : ∀ b o, b ∉ ch → s.heap.get? b = some o → H b = none → H' b = none)
    (there : ∀ b o, b ∉ ch → s.heap.get? b = some o → ∃ o', h'.get? b = some o')
    (tups : ∀ b xs, H b = some (.tup xs) → H' b = some (.tup xs)) (frzs : ∀ b o u, H b = some (.eD o u) → H' b = some (.eD o u)) (tbls : ∀ b ps, H b = some (.b6 ps) → ∃ more, H' b = some (.b6 (ps ++ more)))
    (ns : ∀ m, s.heap.Ns X.env.locals m → h'.Ns X.env.locals m) (hok : da X.prog X.w H' h') (hg : Gn s.gens.size g') :
    Inv X pins σ H' { s with heap := h', gens := g', drawn := d', toks := t' } := by
  have GR : ∀ b o, X.s₀.heap.get? b = some o → b ≠ X.env.locals := fun b o e => Nat.ne_of_lt (Nat.lt_of_lt_of_le (Heap.lt_size e) I.ok.above)
  have y4 : ∀ b o, X.s₀.heap.get? b = some o → b ∉ X.ex → b ∉ ch := fun b o e hx hb => by
    rcases (kJ b hb).1 with z | z
    · exact hx z
    · exact absurd (Nat.lt_of_lt_of_le (Heap.lt_size e) z) (Nat.lt_irrefl _)
  have cellK : ∀ x c, X.env.cells.lookup x = some c → ∀ v, s.heap.IsCell c v → h'.IsCell c v := fun x c e v ⟨o, ho, hd⟩ => by
    have uL : c ∉ ch := fun z => (kJ c z).2.2.1 x c e rfl
    by_cases hc : c ∈ X.fs
    · obtain ⟨sl, q⟩ := slot c o (I.nS x c e) hc uL ho (I.freeC x c e)
      exact ⟨_, q, hd⟩
    · exact ⟨o, keep c o (I.nS x c e) hc uL ho (I.freeC x c e), hd⟩
  refine ⟨I.ok, I.os, I.bare.trans hg, ⟨fun b o e n hb hx => ?_, fun b o e n hb hx => ?_, fun b o e n hx => ?_, fun b o e hx => ?_, fun b xs e => tups b xs (I.base.tups b xs e), fun b o xs e => frzs b o xs (I.base.frzs b o xs e), fun b ps e => ?_⟩, ?_, fun x c e => ?_, ?_, fun x c e => ?_, fun p hp => ?_, hok, I.len⟩
  · exact keep b o (GR b o e) hb (y4 b o e hx) (I.base.keep b o e n hb hx) (I.base.free b o e n hx)
  · obtain ⟨sl, e1⟩ := I.base.slot b o e n hb hx
    obtain ⟨GU, e2⟩ := slot b _ (GR b o e) hb (y4 b o e hx) e1 (I.base.free b o e n hx)
    exact ⟨GU, e2⟩
  · obtain ⟨o', e1⟩ := I.base.there b o e hx
    exact free b o' (y4 b o e hx) e1 (I.base.free b o e n hx)
  · obtain ⟨o', e1⟩ := I.base.there b o e hx
    exact there b o' (y4 b o e hx) e1
  · obtain ⟨m1, e1⟩ := I.base.tbls b ps e
    obtain ⟨m2, e2⟩ := tbls b _ e1
    exact ⟨m1 ++ m2, by rw [e2, Array.append_assoc]⟩
  · obtain ⟨m, hn, hl⟩ := I.loc
    refine ⟨m, ns m hn, fun i x v e1 e2 e3 => ?_⟩
    obtain ⟨u, r, l⟩ := hl i x v e1 e2 e3
    refine ⟨u, r, ?_⟩
    rcases l with l | ⟨k, c, e, z⟩
    · exact .inl l
    · exact .inr ⟨k, c, e, cellK x c e _ z⟩
  · obtain ⟨v, z⟩ := I.cell x c e
    exact ⟨v, cellK x c e v z⟩
  · obtain ⟨m, ⟨o, _, _, ho, _⟩, _⟩ := I.loc
    exact free _ o (fun z => (kJ _ z).2.1 rfl) ho I.free
  · obtain ⟨v, o, ho, hd⟩ := I.cell x c e
    exact free c o (fun z => (kJ c z).2.2.1 x c e rfl) ho (I.freeC x c e)
  · obtain ⟨e, n, ne, nf, d⟩ := I.pin p hp
    have uL : p.1 ∉ ch := fun z => (kJ p.1 z).2.2.2 p hp rfl
    exact ⟨keep p.1 p.2 ne nf uL e n, free p.1 p.2 uL e n, ne, nf, d⟩
theorem Inv.un {t' : Nat} (I : Inv X pins σ H s) (u : Un X.fs [] H H' s.heap h') (hok : da X.prog X.w H' h') : Inv X pins σ H' { s with heap := h', toks := t' } := by
  obtain ⟨m, ⟨o, es, ep, ho, r⟩, _⟩ := id I.loc
  obtain ⟨sl, hL⟩ := u.any ho I.free (by simp)
  exact I.step (g' := s.gens) (d' := s.drawn) (ch := []) (fun _ z => nomatch z) (fun b o _ hb _ e n => u.keep b o e n hb (by simp)) (fun b o _ hb _ e n => u.slot b o e n hb (by simp)) (fun b o _ e n => u.free b o e n (by simp)) (fun b o _ e => u.there b o e (by simp)) u.tups u.frzs u.tbls (fun m' hm => by
    obtain ⟨o', f7, BV, gN, r'⟩ := hm
    rw [ho] at gN; cases gN
    exact ⟨_, f7, BV, hL, r'⟩) hok I.bare.self
theorem Inv.call {g' : Array GenState} {t' : Nat} {d' : Drawn} {ch : List Addr} (I : Inv X pins σ H s) (u : Un (eE X.stack) ch H H' s.heap h') (hok : da X.prog X.w H' h') (hg : Gn s.gens.size g')
    (kJ : ∀ b ∈ ch, (b ∈ X.ex ∨ X.s₀.heap.objs.size ≤ b) ∧ b ≠ X.env.locals ∧ (∀ x c, X.env.cells.lookup x = some c → c ≠ b) ∧ ∀ p ∈ X.pn ++ pins, p.1 ≠ b) :
    Inv X pins σ H' { s with heap := h', gens := g', drawn := d', toks := t' } := by
  obtain ⟨m, ⟨o, es, ep, ho, r⟩, _⟩ := id I.loc
  obtain ⟨sl, hL⟩ := u.any ho I.free fun z => (kJ _ z).2.1 rfl
  exact I.step (ch := ch) kJ (fun b o hL hb hc e n => u.keep b o e n (fun z => (List.mem_cons.mp (I.gO b z)).elim hL hb) hc) (fun b o _ _ hc e n => u.any e n hc) (fun b o hc e n => u.free b o e n hc) (fun b o hc e => u.there b o e hc) u.tups u.frzs u.tbls (fun m' hm => by
    obtain ⟨o', f7, BV, gN, r'⟩ := hm
    rw [ho] at gN; cases gN
    exact ⟨_, f7, BV, hL, r'⟩) hok hg
theorem Inv.turned {t' : Nat} {it : Addr} (I : Inv X pins σ H s) (k : ∀ b o, b ≠ it → s.heap.get? b = some o → h'.get? b = some o) (hn : H it = none) (hL : it ≠ X.env.locals)
    (h1 : it ∈ X.ex ∨ X.s₀.heap.objs.size ≤ it) (h2 : ∀ x c, X.env.cells.lookup x = some c → c ≠ it) (h3 : ∀ p ∈ X.pn ++ pins, p.1 ≠ it) : Inv X pins σ H { s with heap := h', toks := t' } := by
  have GV : ∀ b u, H b = some u → b ≠ it := fun b u e z => by rw [z, hn] at e; cases e
  refine I.step (g' := s.gens) (d' := s.drawn) (ch := [it]) (fun b hb => ?_) (fun b o _ _ hc e _ => k b o (fun z => hc (by simp [z])) e) (fun b o _ _ hc e _ => ⟨o.slots, k b o (fun z => hc (by simp [z])) e⟩) (fun _ _ _ _ n => n)
    (fun b o hc e => ⟨o, k b o (fun z => hc (by simp [z])) e⟩) (fun _ _ e => e) (fun _ _ _ e => e) (fun b ps e => ⟨#[], by rw [e]; simp⟩) (fun m hm => ?_) (fun b u e => ?_) I.bare.self
  · have e : b = it := by simpa using hb
    subst e
    exact ⟨h1, hL, h2, h3⟩
  · obtain ⟨o, es, ep, ho, r⟩ := hm
    exact ⟨o, es, ep, k _ o (Ne.symm hL) ho, r⟩
  · refine (I.hok b u e).eJ (fun c v hc q => k c v ?_ q) (fun _ q => q) fun _ _ q => q
    rcases hc with z | z
    · rw [z]; exact GV b u e
    · exact GV c _ z
theorem Inv.tok (I : Inv X pins σ H s) (t : Nat) : Inv X pins σ H { s with toks := t } := I.un (h' := s.heap) (t' := t) Un.refl I.hok
theorem Inv.kept {t' : Nat} (I : Inv X pins σ H s) (k : ∀ b u, s.heap.get? b = some u → h'.get? b = some u) : Inv X pins σ H { s with heap := h', toks := t' } := I.un (Un.kept k) (I.hok.kept k)
theorem Inv.laid {a : Addr} {o : HO} {t' : Nat} (I : Inv X pins σ H s) (k : ∀ b u, s.heap.get? b = some u → h'.get? b = some u) (hp : s.heap.objs.size ≤ a) (new : bt X.prog X.w (upd H a o) h' a o) :
    Inv X pins σ (upd H a o) { s with heap := h', toks := t' } := I.un (Un.laid k hp (I.hok.fresh hp)) (I.hok.laid k hp new)
theorem Inv.write {x e : Addr} {o : HO} {t' : Nat} (I : Inv X pins σ H s) (mu : yY (H x)) (he : e = x ∨ H e = some (.own x)) (k : ∀ b u, b ≠ e → s.heap.get? b = some u → h'.get? b = some u) (sq : ∃ u, h'.get? e = some u)
    (new : bt X.prog X.w (upd H x o) h' x o) : Inv X pins σ (upd H x o) { s with heap := h', toks := t' } := I.un (Un.write mu he k sq) (I.hok.write mu he k sq new)
theorem Inv.mZ {pins' : List (Addr × Obj)} (I : Inv X pins σ H s) (h : ∀ p ∈ pins', s.heap.get? p.1 = some p.2 ∧ H p.1 = none ∧ p.1 ≠ X.env.locals ∧ p.1 ∉ X.fs ∧ ∀ v, p.2.data ≠ .cell v) : Inv X pins' σ H s :=
  ⟨I.ok, I.os, I.bare, I.base, I.loc, I.cell, I.free, I.freeC, fun p hp => (List.mem_append.mp hp).elim (fun z => I.pin p (List.mem_append_left _ z)) (h p), I.hok, I.len⟩
theorem pG {N : List Str} (hN : N.Nodup) {i j : Nat} {x : Str} (a : N[i]? = some x) (b : N[j]? = some x) : i = j := by
  obtain ⟨h1, e1⟩ := List.getElem?_eq_some_iff.mp a
  obtain ⟨h2, e2⟩ := List.getElem?_eq_some_iff.mp b
  exact (List.getElem_inj hN).mp (e1.trans e2.symm)
theorem store_ok2 {M : Model} {A : Around} {E : Value → Shared → Prop} {i : Nat} {x : Str} {v : V} {u : Value} {Q : Unit → Shared → Prop} (I : Inv X pins σ H s) (hN : X.N.Nodup) (hi : X.N[i]? = some x) (hx : Loc X.env.scope x) (r : RelV v u)
    (h : ∀ s', Inv X pins (σ.set i (some v)) H s' → (∃ a, Heap.SameBut a s.heap s'.heap ∧ (a = X.env.locals ∨ X.env.cells.lookup x = some a)) → Q () s') (hf : X.fn x = true ∨ X.env.scope.names.lookup x = some .local := by first | exact .inl rfl | exact .inr rfl | assumption) : wpAny M A (storeName X.env x u) Q E s := by
  obtain ⟨m, hn, hl⟩ := id I.loc
  have Ie : (X.env.scope.kind == .class || (X.env.scope.kind == .module && X.env.locals != X.env.globals)) = false := by rw [I.ok.kind]; rfl
  have BW : i < σ.length := by rw [I.len]; exact (List.getElem?_eq_some_iff.mp hi).1
  have nS := I.nS
  have tracked : ∀ {a : Addr} {h' : Heap}, (∃ o, s.heap.get? a = some o ∧ H a = none) → Heap.SameBut a s.heap h' → da X.prog X.w H h' := fun {a h'} ha hs b ob e => by
    obtain ⟨_, _, y6⟩ := ha
    refine (I.hok b ob e).eJ (fun c w' hc q => (hs.2 c ?_).trans q) (fun _ q => q) fun _ _ q => q
    rintro rfl
    rcases hc with rfl | hc
    · rw [y6] at e; cases e
    · rw [y6] at hc; cases hc
  rcases hx with hk | hk
  · refine wpAny_storeName_local hk hn (fun h' uM hs => ?_) Ie
    obtain ⟨oL, _, _, JL, _⟩ := id hn
    refine h _ ⟨I.ok, I.os, I.bare, ⟨fun b o e n hb hx => ?_, fun b o e n hb hx => ?_, I.base.free, fun b o e hx => ?_, I.base.tups, I.base.frzs, I.base.tbls⟩, ⟨_, uM, fun j y v' e1 e2 e3 => ?_⟩, fun y c e => ?_, I.free, I.freeC, fun p hp => ?_, tracked ⟨oL, JL, I.free⟩ hs, by simpa using I.len⟩ ⟨_, hs, .inl rfl⟩
    · exact (hs.2 b (Nat.ne_of_lt (Nat.lt_of_lt_of_le (Heap.lt_size e) I.ok.above))).trans (I.base.keep b o e n hb hx)
    · obtain ⟨sl, e1⟩ := I.base.slot b o e n hb hx
      exact ⟨sl, (hs.2 b (Nat.ne_of_lt (Nat.lt_of_lt_of_le (Heap.lt_size e) I.ok.above))).trans e1⟩
    · obtain ⟨o', e1⟩ := I.base.there b o e hx
      exact ⟨o', (hs.2 b (Nat.ne_of_lt (Nat.lt_of_lt_of_le (Heap.lt_size e) I.ok.above))).trans e1⟩
    · by_cases hj : j = i
      · subst hj
        rw [hi] at e1; cases e1
        rw [List.getElem?_set_self BW] at e2
        cases e2
        exact ⟨u, r, .inl ⟨hk, by simp⟩⟩
      · rw [List.getElem?_set_ne (Ne.symm hj)] at e2
        obtain ⟨u', r', q⟩ := hl j y v' e1 e2 e3
        refine ⟨u', r', ?_⟩
        rcases q with ⟨k, e⟩ | ⟨k, c, e, z⟩
        · refine .inl ⟨k, ?_⟩
          have : y ≠ x := fun e => hj (pG hN e1 (e ▸ hi))
          simp [this, e]
        · exact .inr ⟨k, c, e, z.sameBut hs (nS y c e)⟩
    · obtain ⟨w', z⟩ := I.cell y c e
      exact ⟨w', z.sameBut hs (nS y c e)⟩
    · obtain ⟨e, n, ne, nf, d⟩ := I.pin p hp
      exact ⟨(hs.2 p.1 ne).trans e, n, ne, nf, d⟩
  · have BX : X.fn x = true := by
      rcases hf with z | z
      · exact z
      · rw [z] at hk; cases hk
    obtain ⟨c, hc⟩ := I.ok.has x (.inl hk)
    obtain ⟨w', z⟩ := I.cell x c hc
    refine wpAny_storeName_cell I.ok.kind hk hc z (fun h' y7 hs => ?_)
    obtain ⟨oc, GW, Ig⟩ := id z
    refine h { s with heap := h' } ⟨I.ok, I.os, I.bare, ⟨fun b o e n hb hx => ?_, fun b o e n hb hx => ?_, I.base.free, fun b o e hx => ?_, I.base.tups, I.base.frzs, I.base.tbls⟩, ⟨m, hn.sameBut hs (Ne.symm (nS x c hc)), fun j y v' e1 e2 e3 => ?_⟩, fun y c' e => ?_, I.free, I.freeC, fun p hp => ?_, tracked ⟨oc, GW, I.freeC x c hc⟩ hs, by simpa using I.len⟩ ⟨c, hs, .inr hc⟩
    · exact (hs.2 b (Nat.ne_of_lt (Nat.lt_of_lt_of_le (Heap.lt_size e) (I.ok.cab x c BX hc)))).trans (I.base.keep b o e n hb hx)
    · obtain ⟨sl, e1⟩ := I.base.slot b o e n hb hx
      exact ⟨sl, (hs.2 b (Nat.ne_of_lt (Nat.lt_of_lt_of_le (Heap.lt_size e) (I.ok.cab x c BX hc)))).trans e1⟩
    · obtain ⟨o', e1⟩ := I.base.there b o e hx
      exact ⟨o', (hs.2 b (Nat.ne_of_lt (Nat.lt_of_lt_of_le (Heap.lt_size e) (I.ok.cab x c BX hc)))).trans e1⟩
    · by_cases hj : j = i
      · subst hj
        rw [hi] at e1; cases e1
        rw [List.getElem?_set_self BW] at e2
        cases e2
        exact ⟨u, r, .inr ⟨.inl hk, c, hc, y7⟩⟩
      · rw [List.getElem?_set_ne (Ne.symm hj)] at e2
        obtain ⟨u', r', q⟩ := hl j y v' e1 e2 e3
        refine ⟨u', r', ?_⟩
        rcases q with q | ⟨k, c', e, z'⟩
        · exact .inl q
        · refine .inr ⟨k, c', e, z'.sameBut hs ?_⟩
          rintro rfl
          exact hj (pG hN e1 (I.ok.inj _ _ _ e hc ▸ hi))
    · by_cases GX : c' = c
      · subst GX; exact ⟨_, y7⟩
      · obtain ⟨w2, z2⟩ := I.cell y c' e
        exact ⟨w2, z2.sameBut hs GX⟩
    · obtain ⟨e, n, ne, nf, d⟩ := I.pin p hp
      refine ⟨(hs.2 p.1 ?_).trans e, n, ne, nf, d⟩
      intro q
      rw [q, GW] at e
      have q' : oc = p.2 := Option.some.inj e
      exact d w' (by rw [← q']; exact Ig)
theorem pH {M : Model} {A : Around} {E : Value → Shared → Prop} {i : Nat} {x : Str} {v : V} {u : Value} {Q : Unit → Shared → Prop} (I : Inv X pins σ H s) (hN : X.N.Nodup) (hi : X.N[i]? = some x) (hx : Loc X.env.scope x) (r : RelV v u)
    (h : ∀ s', Inv X pins (σ.set i (some v)) H s' → Q () s') (hf : X.fn x = true ∨ X.env.scope.names.lookup x = some .local := by first | exact .inl rfl | exact .inr rfl | assumption) : wpAny M A (storeName X.env x u) Q E s :=
  store_ok2 I hN hi hx r (fun s' I' _ => h s' I') hf
theorem Inv.o7 {s' : Shared} {ch : List Addr} (I : Inv X pins σ H s) (ho : s'.os = s.os) (u : Un (eE X.stack) ch H H' s.heap s'.heap) (hok : da X.prog X.w H' s'.heap) (hg : Gn s.gens.size s'.gens)
    (kJ : ∀ b ∈ ch, (b ∈ X.ex ∨ X.s₀.heap.objs.size ≤ b) ∧ b ≠ X.env.locals ∧ (∀ x c, X.env.cells.lookup x = some c → c ≠ b) ∧ ∀ p ∈ X.pn ++ pins, p.1 ≠ b) : Inv X pins σ H' s' := by
  obtain ⟨h', g', d', t', o'⟩ := s'
  have e : o' = s.os := ho
  subst e
  exact I.call (g' := g') (t' := t') (d' := d') u hok hg kJ
end
noncomputable abbrev XK := Value → Option Addr → Hp → Prop
noncomputable abbrev St := List (Option V)
noncomputable abbrev VK := V → Hp → Prop
noncomputable abbrev TE := St → Hp → VK → Prop
noncomputable abbrev TT := St → Hp → (Bool → Hp → Prop) → Prop
noncomputable abbrev TA := St → Hp → (List V → Hp → Prop) → Prop
structure Ends where
  nx : St → Hp → Prop
  rt : VK
  bk : St → Hp → Prop := fun _ _ => False
  ct : St → Hp → Prop := fun _ _ => False
noncomputable abbrev TS := Ends → St → Hp → Prop
noncomputable def EP (X : Cx) (pins : List (Addr × Obj)) (σ : St) (Q : VK) (u : Value) (s' : Shared) : Prop := ∃ v H', Inv X pins σ H' s' ∧ RelV v u ∧ Q v H'
noncomputable def TP (X : Cx) (pins : List (Addr × Obj)) (σ : St) (Q : Bool → Hp → Prop) (b : Bool) (s' : Shared) : Prop := ∃ H', Inv X pins σ H' s' ∧ Q b H'
noncomputable def AP (X : Cx) (pins : List (Addr × Obj)) (σ : St) (Q : List V → Hp → Prop) (us : List Value) (s' : Shared) : Prop := ∃ vs H', Inv X pins σ H' s' ∧ Vals vs us ∧ Q vs H'
noncomputable def SP (X : Cx) (pins : List (Addr × Obj)) (D : Ends) (f : Flow) (s' : Shared) : Prop :=
  match f with
  | .next => ∃ aJ H', Inv X pins aJ H' s' ∧ D.nx aJ H'
  | .brk => ∃ aJ H', Inv X pins aJ H' s' ∧ D.bk aJ H'
  | .cont => ∃ aJ H', Inv X pins aJ H' s' ∧ D.ct aJ H'
  | .ret u => ∃ v aJ H', Inv X pins aJ H' s' ∧ RelV v u ∧ D.rt v H'
structure PE (X : Cx) (e : Expr) (t : TE) : Prop where
  run : ∀ (pins : List (Addr × Obj)) (s : Shared) (σ : St) (H : Hp) (Q : VK), Inv X pins σ H s → t σ H Q → wpAny (model X.prog X.w) X.A (eval e X.env) (EP X pins σ Q) X.xe s
instance {X : Cx} {e : Expr} {t : TE} : CoeFun (PE X e t) (fun _ => ∀ (pins : List (Addr × Obj)) (s : Shared) (σ : St) (H : Hp) (Q : VK), Inv X pins σ H s → t σ H Q → wpAny (model X.prog X.w) X.A (eval e X.env) (EP X pins σ Q) X.xe s) := ⟨PE.run⟩
structure PT (X : Cx) (e : Expr) (t : TT) : Prop where
  run : ∀ (pins : List (Addr × Obj)) (s : Shared) (σ : St) (H : Hp) (Q : Bool → Hp → Prop), Inv X pins σ H s → t σ H Q → wpAny (model X.prog X.w) X.A (isTrue e X.env (eval e X.env)) (TP X pins σ Q) X.xe s
instance {X : Cx} {e : Expr} {t : TT} : CoeFun (PT X e t) (fun _ => ∀ (pins : List (Addr × Obj)) (s : Shared) (σ : St) (H : Hp) (Q : Bool → Hp → Prop), Inv X pins σ H s → t σ H Q → wpAny (model X.prog X.w) X.A (isTrue e X.env (eval e X.env)) (TP X pins σ Q) X.xe s) := ⟨PT.run⟩
noncomputable def PW (X : Cx) (e : Expr) (t : TT) : Prop :=
  ∀ (whole : Sem Value) (pins : List (Addr × Obj)) (s : Shared) (σ : St) (H : Hp) (Q : Bool → Hp → Prop), Inv X pins σ H s → t σ H Q → wpAny (model X.prog X.w) X.A (isTrue e X.env whole) (TP X pins σ Q) X.xe s
theorem PW.pt {X : Cx} {e : Expr} {t : TT} (h : PW X e t) : PT X e t := ⟨h _⟩
structure PA (X : Cx) (es : List Expr) (t : TA) : Prop where
  run : ∀ (pos : Pos) (pins : List (Addr × Obj)) (s : Shared) (σ : St) (H : Hp) (Q : List V → Hp → Prop), Inv X pins σ H s → t σ H Q → wpAny (model X.prog X.w) X.A (spliced (backTo pos (starEach es X.env))) (AP X pins σ Q) X.xe s
instance {X : Cx} {es : List Expr} {t : TA} : CoeFun (PA X es t) (fun _ => ∀ (pos : Pos) (pins : List (Addr × Obj)) (s : Shared) (σ : St) (H : Hp) (Q : List V → Hp → Prop), Inv X pins σ H s → t σ H Q → wpAny (model X.prog X.w) X.A (spliced (backTo pos (starEach es X.env))) (AP X pins σ Q) X.xe s) := ⟨PA.run⟩
structure PS (X : Cx) (st : Stmt) (t : TS) : Prop where
  run : ∀ (pins : List (Addr × Obj)) (s : Shared) (σ : St) (H : Hp) (D : Ends), Inv X pins σ H s → t D σ H → wpAny (model X.prog X.w) X.A (exec st X.env) (SP X pins D) X.xe s
instance {X : Cx} {st : Stmt} {t : TS} : CoeFun (PS X st t) (fun _ => ∀ (pins : List (Addr × Obj)) (s : Shared) (σ : St) (H : Hp) (D : Ends), Inv X pins σ H s → t D σ H → wpAny (model X.prog X.w) X.A (exec st X.env) (SP X pins D) X.xe s) := ⟨PS.run⟩
structure dO (X : Cx) (st : List Stmt) (t : TS) : Prop where
  run : ∀ (pins : List (Addr × Obj)) (s : Shared) (σ : St) (H : Hp) (D : Ends), Inv X pins σ H s → t D σ H → wpAny (model X.prog X.w) X.A (execs st X.env) (SP X pins D) X.xe s
instance {X : Cx} {st : List Stmt} {t : TS} : CoeFun (dO X st t) (fun _ => ∀ (pins : List (Addr × Obj)) (s : Shared) (σ : St) (H : Hp) (D : Ends), Inv X pins σ H s → t D σ H → wpAny (model X.prog X.w) X.A (execs st X.env) (SP X pins D) X.xe s) := ⟨dO.run⟩
theorem thn {α : Type} {t : Sem α} {Q Q' : α → Shared → Prop} {M : Model} {A : Around} {E : Value → Shared → Prop} {s : Shared} (h : wpAny M A t Q E s) (hQ : ∀ a s, Q a s → Q' a s) : wpAny M A t Q' E s := wpAny_mono h hQ fun _ _ x => x
section
variable {X : Cx}
theorem bin {a b : Expr} {ta tb : TE} (ha : PE X a ta) (hb : PE X b tb) {pins : List (Addr × Obj)} {s : Shared} {σ : St} {H : Hp} {R : V → V → Hp → Prop} (I : Inv X pins σ H s) (h : ta σ H fun x H1 => tb σ H1 fun y H2 => R x y H2)
    {α : Type} {Q : α → Shared → Prop} {f : Value → Value → Sem α}
    (hf : ∀ v u s2 x y H2, Inv X pins σ H2 s2 → RelV x v → RelV y u → R x y H2 → wpAny (model X.prog X.w) X.A (f v u) Q X.xe s2) :
    wpAny (model X.prog X.w) X.A (eval a X.env) (fun v aw => wpAny (model X.prog X.w) X.A (eval b X.env) (fun u iy => wpAny (model X.prog X.w) X.A (f v u) Q X.xe iy) X.xe aw) X.xe s := by
  refine thn (ha pins s σ H _ I h) fun v s1 ⟨x, H1, I1, r1, q1⟩ => ?_
  refine thn (hb pins s1 σ H1 _ I1 q1) fun u s2 ⟨y, H2, I2, r2, q2⟩ => ?_
  exact hf v u s2 x y H2 I2 r1 r2 q2
noncomputable def BZ (i : Nat) : TE := fun σ H Q => ∃ v, σ[i]? = some (some v) ∧ Q v H
noncomputable def tC (v : V) : TE := fun _ H Q => Q v H
theorem uN {i : Nat} {x : Str} {pos : Pos} (hN : X.N[i]? = some x) (hv : pF X.env.scope x) (hd : (x == ("__debug__" : Str)) = false := by decide) (fx : (x == ("__classdict__" : Str)) = false := by decide) : PE X (.Name x pos) (BZ i) := by
  refine ⟨?_⟩
  intro pins s σ H Q I h
  obtain ⟨v, e, h⟩ := h
  obtain ⟨m, hn, hl⟩ := I.loc
  obtain ⟨u, r, l⟩ := hl i x v hN e hv
  have fin : EP X pins σ Q u s := ⟨v, H, I, r, h⟩
  rcases l with ⟨hk, hm⟩ | ⟨hk, c, hc, o8⟩
  · exact wpAny_Name (wpAny_loadName_local I.ok.kind hk hn hm fin) hd
  · rcases hk with hk | hk
    · exact wpAny_Name (wpAny_loadName_cell I.ok.kind hk hc o8 fin) hd
    · exact wpAny_Name (wpAny_loadName_free I.ok.kind hk hc o8 fin fx) hd
theorem B1 {i j pos} : PE X (.Constant (.int i) j pos) (tC (.int i)) := ⟨fun _ _ _ H _ I h => wpAny_Constant_int ⟨.int i, H, I.tok _, ⟨_, rfl⟩, h⟩⟩
theorem Fv {b j pos} : PE X (.Constant (.bool b) j pos) (tC (.bl b)) := ⟨fun _ _ _ H _ I h => Constant_bool ⟨.bl b, H, I, rfl, h⟩⟩
theorem B2 {j pos} : PE X (.Constant .none j pos) (tC .aC) := ⟨fun _ _ _ H _ I h => Constant_none ⟨.aC, H, I, rfl, h⟩⟩
theorem B3 {x j pos} : PE X (.Constant (.str x) j pos) (tC (.str x)) := ⟨fun _ _ _ H _ I h => Calls.Constant_str ⟨.str x, H, I.tok _, ⟨_, rfl⟩, h⟩⟩
noncomputable def Gl (X : Cx) (x : Str) : Prop := X.env.kindOf x = some .globalImplicit
theorem ki {E : Value → Shared → Prop} {pins : List (Addr × Obj)} {s : Shared} {σ : St} {H : Hp} {x : Str} {u : Value} {pos : Pos} {Q : Value → Shared → Prop} (I : Inv X pins σ H s) (hg : Gl X x) (hm : X.mg x = some u) (h : Q u s)
    (hd : (x == ("__debug__" : Str)) = false := by decide) : wpAny (model X.prog X.w) X.A (eval (.Name x pos) X.env) Q E s :=
  Calls.Name_function_global I.ok.kind hg (Calls.loadGlobal_global (by rw [I.ok.glob]; exact I.mod.glob.keeps I.bk) hm h) hd
theorem gP {E : Value → Shared → Prop} {pins : List (Addr × Obj)} {s : Shared} {σ : St} {H : Hp} {x : Str} {u : Value} {pos : Pos} {Q : Value → Shared → Prop} (I : Inv X pins σ H s) (hg : Gl X x) (hm : X.mg x = none) (hv : bootBuiltins x = some u) (h : Q u s)
    (hn : x ≠ "__name__" := by decide) (hd : (x == ("__debug__" : Str)) = false := by decide) : wpAny (model X.prog X.w) X.A (eval (.Name x pos) X.env) Q E s := by
  obtain ⟨mb, h1, h2⟩ := I.mod.blt
  exact Calls.Name_function_global I.ok.kind hg (Calls.loadGlobal_builtin (by rw [I.ok.glob]; exact I.mod.glob.keeps I.bk) hm (by rw [I.ok.blt]; exact h1.keeps I.bk) ((h2 x hn).trans hv) h) hd
theorem sr {x : Str} {v : V} {u : Value} {pos : Pos} (hg : Gl X x) (hm : X.mg x = some u) (r : RelV v u) (hd : (x == ("__debug__" : Str)) = false := by decide) : PE X (.Name x pos) (tC v) := ⟨fun _ _ _ H _ I h => ki I hg hm ⟨v, H, I, r, h⟩ hd⟩
theorem z9 {x : Str} {v : V} {u : Value} {pos : Pos} (hg : Gl X x) (hm : X.mg x = none) (hv : bootBuiltins x = some u) (r : RelV v u) (hn : x ≠ "__name__" := by decide) (hd : (x == ("__debug__" : Str)) = false := by decide) : PE X (.Name x pos) (tC v) := ⟨fun _ _ _ H _ I h => gP I hg hm hv ⟨v, H, I, r, h⟩ hn hd⟩
variable {a b : Expr} {ta tb : TE} {pos : Pos}
noncomputable def PC (X : Cx) (op : CmpOp) (a b : Expr) (t : TE) : Prop :=
  ∀ (pins : List (Addr × Obj)) (s : Shared) (σ : St) (H : Hp) (Q : VK), Inv X pins σ H s → t σ H Q →
    wpAny (model X.prog X.w) X.A (eval a X.env) (fun v aw => wpAny (model X.prog X.w) X.A (eval b X.env) (fun u iy => wpAny (model X.prog X.w) X.A (compareOp op v u) (EP X pins σ Q) X.xe iy) X.xe aw) X.xe s
theorem xa (b : Expr) {op : CmpOp} (h : op ≠ .In) (h2 : op ≠ .NotIn) : behindInMarks op b = false := by
  have e1 : (op == CmpOp.In) = false := by cases op <;> first | rfl | exact absurd rfl h
  have e2 : (op == CmpOp.NotIn) = false := by cases op <;> first | rfl | exact absurd rfl h2
  cases b <;> simp [behindInMarks, e1, e2]
noncomputable def tB (t : TE) : TT := fun σ H Q => t σ H fun x H1 => ∃ c, x = .bl c ∧ Q c H1
theorem JM {op : CmpOp} {t : TE} (h : PC X op a b t) (h1 : behindInMarks op b = false := by first | exact xa _ (by decide) (by decide) | rfl) : PT X (.Compare a [op] [b] pos) (tB t) := by
  refine ⟨?_⟩
  intro pins s σ H Q I hw
  refine wpAny_isTrue_Compare1 (thn (h pins s σ H _ I hw) fun v s1 h1 => thn h1 fun u s2 h2 => thn h2 fun c s3 ⟨x, H1, I1, r1, q1⟩ => ?_) h1
  obtain ⟨d, rfl, q⟩ := q1
  cases r1
  exact wpAny_truthy_bool ⟨H1, I1, q⟩
theorem B4 {e : Expr} {t : TE} (h : PE X e t) (he : ∀ whole, isTrue e X.env whole = (do let v ← whole; standAt e.pos; holding [v] (truthy v)) := by intro _; rfl) : PT X e (tB t) := by
  refine ⟨?_⟩
  intro pins s σ H Q I hw
  refine isTrue_plain (thn (h pins s σ H _ I hw) fun v s1 ⟨x, H1, I1, r1, q1⟩ => ?_) (he _)
  obtain ⟨d, rfl, q⟩ := q1
  cases r1
  exact wpAny_truthy_bool ⟨H1, I1, q⟩
variable {tA uO : TT} {rest : List Expr}
noncomputable def JN (t u : TT) : TT := fun σ H Q => t σ H fun c H1 => if c = true then Q true H1 else u σ H1 Q
noncomputable def Ih (t : TT) : TT := fun σ H Q => t σ H fun c H1 => Q (!c) H1
theorem B5 (ha : PT X a tA) : PW X (.BoolOp .Or [a] pos) tA := by
  intro wh pins s σ H Q I h
  refine isTrue_or (thn (ha pins s σ H Q I h) fun c s1 e => ?_)
  cases c with
  | false => exact isTrue_or_nil e
  | true => exact e
theorem Fw (ha : PT X a tA) (hb : PW X (.BoolOp .Or (b :: rest) pos) uO) : PW X (.BoolOp .Or (a :: b :: rest) pos) (JN tA uO) := by
  intro wh pins s σ H Q I h
  refine isTrue_or (thn (ha pins s σ H _ I h) fun c s1 ⟨H1, I1, q1⟩ => ?_)
  cases c with
  | true => exact ⟨H1, I1, q1⟩
  | false => exact hb wh pins s1 σ H1 Q I1 q1
theorem B6 (ha : PT X a tA) : PT X (.UnaryOp .Not a pos) (Ih tA) := by
  refine ⟨?_⟩
  intro pins s σ H Q I h
  exact isTrue_not (ha pins s σ H (fun c H1 => Q (!c) H1) I h)
noncomputable def Fx (ta tb : TE) : TE := fun σ H Q => ta σ H fun x H1 => ∃ c, x = .bl c ∧ if c = true then tb σ H1 Q else Q (.bl false) H1
noncomputable def Fy (ta : TE) : TE := fun σ H Q => ta σ H fun x H1 => ∃ c, x = .bl c ∧ Q (.bl (!c)) H1
theorem B7 {op} {t : TE} (h : PE X a t) : PE X (.BoolOp op [a] pos) t := ⟨fun pins s σ H Q I hw => BoolOp_one (h pins s σ H Q I hw)⟩
theorem B8 (ha : PE X a ta) (hb : PE X (.BoolOp .And (b :: rest) pos) tb) : PE X (.BoolOp .And (a :: b :: rest) pos) (Fx ta tb) := by
  refine ⟨?_⟩
  intro pins s σ H Q I h
  refine BoolOp_and (thn (ha pins s σ H _ I h) fun v s1 ⟨x, H1, I1, r1, q1⟩ => ?_)
  obtain ⟨c, rfl, q1⟩ := q1
  cases r1
  refine wpAny_truthy_bool ?_
  cases c with
  | true => exact hb pins s1 σ H1 Q I1 q1
  | false => exact ⟨.bl false, H1, I1, rfl, q1⟩
theorem B9 (ha : PE X a ta) : PE X (.UnaryOp .Not a pos) (Fy ta) := by
  refine ⟨?_⟩
  intro pins s σ H Q I h
  refine UnaryOp_ (thn (ha pins s σ H _ I h) fun v s1 ⟨x, H1, I1, r1, q1⟩ => ?_)
  obtain ⟨c, rfl, q1⟩ := q1
  cases r1
  exact not_of (wpAny_truthy_bool ⟨.bl (!c), H1, I1, rfl, q1⟩)
end
noncomputable def bQ (K : PySem.W.Frag) (H : Hp) (a : Addr) (xs : List V) : Prop :=
  Rd H a (.lst xs) ∨
    ∃ (o : Obj) (its : Array Value) (n : Nat), K.lookup a = some o ∧ o.cls = .type "list" ∧ o.dict = none ∧ o.data = .seq its n ∧ its.size ≤ sizeLine ∧ Vals xs its.toList
noncomputable def bW (K : PySem.W.Frag) (H : Hp) (a : Addr) (xs : List V) : Prop :=
  Rd H a (.tup xs) ∨
    ∃ (o : Obj) (its : Array Value) (n : Nat), K.lookup a = some o ∧ o.cls = .type "tuple" ∧ o.data = .seq its n ∧ its.size ≤ sizeLine ∧ Vals xs its.toList
noncomputable def Ii : Value → Option V
  | .none => some .aC
  | .bool b => some (.bl b)
  | .int i _ => some (.int i)
  | .str x _ => some (.str x)
  | .bytes b _ => some (.gL b)
  | .float b _ => some (.so b)
  | .ref a => some (.ref a)
  | .type n => some (.ty n)
  | _ => none
theorem RelV.abs {x : V} {u : Value} (r : RelV x u) : Ii u = some x := by
  cases x with
  | aC => cases r; rfl
  | bl _ => cases r; rfl
  | int _ => obtain ⟨t, rfl⟩ := r; rfl
  | str _ => obtain ⟨t, rfl⟩ := r; rfl
  | gL _ => obtain ⟨t, rfl⟩ := r; rfl
  | so _ => obtain ⟨t, rfl⟩ := r; rfl
  | ref _ => cases r; rfl
  | ty _ => cases r; rfl
theorem RelV.inj {x y : V} {u : Value} (r : RelV x u) (q : RelV y u) : x = y := Option.some.inj (r.abs.symm.trans q.abs)
theorem Vals.inj : ∀ {xs ys : List V} {us : List Value}, Vals xs us → Vals ys us → xs = ys
  | _, _, _, .nil, .nil => rfl
  | _, _, _, .cons r t, .cons r' t' => by rw [r.inj r', Vals.inj t t']
section
variable {X : Cx} {pins : List (Addr × Obj)} {σ : St} {H : Hp} {s : Shared} {a : Addr} {xs ys : List V}
theorem bQ.of {K : PySem.W.Frag} (h : H a = some (.lst xs)) : bQ K H a xs := .inl (.inl h)
theorem bW.of {K : PySem.W.Frag} (h : H a = some (.tup xs)) : bW K H a xs := .inl (.inl h)
theorem Inv.list (I : Inv X pins σ H s) (h : bQ X.K H a xs) : ∃ its : List Value, Vals xs its ∧ PlainL s.heap a its.toArray ∧ xs.length ≤ sizeLine := by
  rcases h with h | ⟨o, its, n, hk, hc, hd, hs, hz, r⟩
  · obtain ⟨z, its, n, r, e⟩ := h.ok I.hok
    exact ⟨its, r, ⟨_, n, e, rfl, rfl, rfl⟩, z⟩
  · refine ⟨its.toList, r, ⟨o, n, I.eF a o hk, hc, hd, by simpa using hs⟩, ?_⟩
    have e := r.length
    simp only [Array.length_toList] at e
    omega
theorem Inv.tuple (I : Inv X pins σ H s) (h : bW X.K H a xs) : ∃ its : List Value, Vals xs its ∧ IsTup s.heap a its.toArray ∧ xs.length ≤ sizeLine := by
  rcases h with h | ⟨o, its, n, hk, hc, hs, hz, r⟩
  · obtain ⟨z, its, r, p⟩ := h.ok I.hok
    exact ⟨its, r, gm.tup p, z⟩
  · refine ⟨its.toList, r, ⟨o, I.eF a o hk, hc, n, by simpa using hs⟩, ?_⟩
    have e := r.length
    simp only [Array.length_toList] at e
    omega
theorem Inv.xc (I : Inv X pins σ H s) (h : bQ X.K H a xs) (h' : bQ X.K H a ys) : xs = ys := by
  obtain ⟨its, r, ⟨o, n, e, _, _, d⟩, _⟩ := I.list h
  obtain ⟨its', r', ⟨o', n', e', _, _, d'⟩, _⟩ := I.list h'
  rw [e] at e'; cases e'
  rw [d] at d'
  injection d' with d1 _
  have : its = its' := by simpa using congrArg Array.toList d1
  subst this
  exact r.inj r'
theorem Inv.uP (I : Inv X pins σ H s) (h : bW X.K H a xs) (h' : bW X.K H a ys) : xs = ys := by
  obtain ⟨its, r, ⟨o, e, _, n, d⟩, _⟩ := I.tuple h
  obtain ⟨its', r', ⟨o', e', _, n', d'⟩, _⟩ := I.tuple h'
  rw [e] at e'; cases e'
  rw [d] at d'
  injection d' with d1 _
  have : its = its' := by simpa using congrArg Array.toList d1
  subst this
  exact r.inj r'
end
noncomputable abbrev Cx.iz (X : Cx) (E : Value → Shared → Prop) : Cx := { X with xe := E }
noncomputable abbrev Cx.uQ (X : Cx) : Cx := X.iz fun _ _ => False
theorem Cx.Ok.iz {X : Cx} (ok : X.Ok) (E : Value → Shared → Prop) : (X.iz E).Ok :=
  ⟨ok.mod, ok.kind, ok.glob, ok.blt, ok.above, ok.inj, ok.has, ok.cab, ok.hd, ok.frames, ok.stk, ok.exf, ok.bs, ok.bsz, ok.noex, ok.exfs, ok.funs, ok.frf⟩
theorem Cx.Ok.f9 {X : Cx} {E : Value → Shared → Prop} (ok : (X.iz E).Ok) : X.Ok :=
  ⟨ok.mod, ok.kind, ok.glob, ok.blt, ok.above, ok.inj, ok.has, ok.cab, ok.hd, ok.frames, ok.stk, ok.exf, ok.bs, ok.bsz, ok.noex, ok.exfs, ok.funs, ok.frf⟩
section
variable {X : Cx} {pins : List (Addr × Obj)} {σ : St} {H : Hp} {s : Shared} {E : Value → Shared → Prop}
theorem Inv.iz (I : Inv X pins σ H s) (E : Value → Shared → Prop) : Inv (X.iz E) pins σ H s := ⟨I.ok.iz E, I.os, I.bare, I.base, I.loc, I.cell, I.free, I.freeC, I.pin, I.hok, I.len⟩
theorem Inv.f9 (I : Inv (X.iz E) pins σ H s) : Inv X pins σ H s := ⟨I.ok.f9, I.os, I.bare, I.base, I.loc, I.cell, I.free, I.freeC, I.pin, I.hok, I.len⟩
theorem SP.f9 {D : Ends} {f : Flow} {s' : Shared} (h : SP (X.iz E) pins D f s') : SP X pins D f s' := by
  cases f with
  | next => obtain ⟨aJ, H', I, q⟩ := h; exact ⟨aJ, H', I.f9, q⟩
  | brk => obtain ⟨aJ, H', I, q⟩ := h; exact ⟨aJ, H', I.f9, q⟩
  | cont => obtain ⟨aJ, H', I, q⟩ := h; exact ⟨aJ, H', I.f9, q⟩
  | ret u => obtain ⟨v, aJ, H', I, r, q⟩ := h; exact ⟨v, aJ, H', I.f9, r, q⟩
theorem dO.uQ {st : List Stmt} {t : TS} (h : dO X.uQ st t) : dO X st t := ⟨fun pins s σ H D I hw =>
  wpAny_mono (h pins s σ H D (I.iz _) hw) (fun _ _ q => q.f9) fun _ _ z => False.elim z⟩
end
section
variable {X : Cx} {st : Stmt} {rest : List Stmt} {t u : TS} {e : Expr} {te : TE} {pos : Pos}
noncomputable def FA : TS := fun D σ H => D.nx σ H
noncomputable def Ij (t u : TS) : TS := fun D σ H => t { D with nx := u D } σ H
theorem Aa : dO X [] FA := ⟨fun _ _ σ H _ I h => wpAny_execs_nil ⟨σ, H, I, h⟩⟩
theorem xf (h1 : PS X st t) (h2 : dO X rest u) : dO X (st :: rest) (Ij t u) := by
  refine ⟨?_⟩
  intro pins s σ H D I h
  refine wpAny_execs_cons (thn (h1 pins s σ H { D with nx := u D } I h) fun f s1 q => ?_)
  cases f with
  | next =>
    obtain ⟨aJ, H', I', q⟩ := q
    exact h2 pins s1 aJ H' D I' q
  | ret v => exact q
  | brk => exact q
  | cont => exact q
theorem Ab (h1 : PS X st t) : dO X [st] t := by
  refine ⟨?_⟩
  intro pins s σ H D I h
  refine wpAny_execs_cons (thn (h1 pins s σ H D I h) fun f s1 q => ?_)
  cases f with
  | next => exact wpAny_execs_nil q
  | ret v => exact q
  | brk => exact q
  | cont => exact q
theorem Inv.quiet {pins : List (Addr × Obj)} {σ : St} {H : Hp} {s : Shared} (I : Inv X pins σ H s) : interactive X.env = false := by simp [interactive, I.ok.kind]
noncomputable def FC (te : TE) : TS := fun D σ H => te σ H fun _ H1 => D.nx σ H1
theorem Ac (he : PE X e te) (hs : swapsWith e none pos.line X.env = pure false := by rfl) : PS X (.Expr e pos) (FC te) := by
  refine ⟨?_⟩
  intro pins s σ H D I h
  exact wpAny_Expr_any (thn (he pins s σ H _ I h) fun v s1 ⟨x, H1, I1, r1, q1⟩ => ⟨σ, H1, I1, q1⟩) I.quiet hs
noncomputable def Ik (te : TE) : TS := fun D σ H => te σ H D.rt
theorem Ca (he : PE X e te) : PS X (.Return (some e) pos) (Ik te) := by
  refine ⟨?_⟩
  intro pins s σ H D I h
  exact wpAny_Return_some (thn (he pins s σ H _ I h) fun v s1 ⟨x, H1, I1, r1, q1⟩ => ⟨x, σ, H1, I1, r1, q1⟩)
noncomputable def Il (c : TT) (t u : TS) : TS := fun D σ H => c σ H fun b H1 => if b = true then t D σ H1 else u D σ H1
theorem FD {c : Expr} {a b : List Stmt} {tc : TT} (hc : PT X c tc) (ha : dO X a t) (hb : dO X b u) : PS X (.If c a b pos) (Il tc t u) := by
  refine ⟨?_⟩
  intro pins s σ H D I h
  refine wpAny_If (thn (hc pins s σ H _ I h) fun d s1 ⟨H1, I1, q1⟩ => ?_)
  cases d with
  | true => exact ha pins s1 σ H1 D I1 q1
  | false => exact hb pins s1 σ H1 D I1 q1
noncomputable def uR : TS := fun _ _ _ => False
theorem xg : PS X st uR := ⟨fun _ _ _ _ _ _ h => h.elim⟩
theorem uS {uT : List Stmt} : dO X uT uR := ⟨fun _ _ _ _ _ _ h => h.elim⟩
end
noncomputable abbrev TG := V → St → Hp → (St → Hp → Prop) → Prop
noncomputable def PG (X : Cx) (target : Expr) (t : TG) : Prop :=
  ∀ (pins : List (Addr × Obj)) (s : Shared) (σ : St) (H : Hp) (v : V) (u : Value) (Q : St → Hp → Prop), Inv X pins σ H s → RelV v u → t v σ H Q →
    wpAny (model X.prog X.w) X.A (assign target X.env u) (fun _ s' => ∃ aJ H', Inv X pins aJ H' s' ∧ Q aJ H') X.xe s
noncomputable abbrev xh := V → V → V → Hp → (Hp → Prop) → Prop
noncomputable def Cb (X : Cx) (t : xh) : Prop :=
  ∀ (pins : List (Addr × Obj)) (s : Shared) (σ : St) (H : Hp) (o i v : V) (ov iv u : Value) (Q : Hp → Prop), Inv X pins σ H s → RelV o ov → RelV i iv → RelV v u → t o i v H Q →
    wpAny (model X.prog X.w) X.A (setItem ov iv u) (fun _ s' => ∃ H', Inv X pins σ H' s' ∧ Q H') X.xe s
section
variable {X : Cx} {pos : Pos}
noncomputable def o9 (i : Nat) : TG := fun v σ H Q => Q (σ.set i (some v)) H
theorem Ad {i : Nat} {x : Str} (hN : X.N.Nodup) (hi : X.N[i]? = some x) (hx : Loc X.env.scope x) (hf : X.fn x = true ∨ X.env.scope.names.lookup x = some .local := by first | exact .inl rfl | exact .inr rfl | assumption) : PG X (.Name x pos) (o9 i) := by
  intro pins s σ H v u Q I r h
  exact wpAny_assign_Name (pH I hN hi hx r (fun s' I' => ⟨_, H, I', h⟩) hf)
noncomputable def Im (to ti : TE) (t : xh) : TG := fun v σ H Q => to σ H fun o H1 => ti σ H1 fun i H2 => t o i v H2 fun H3 => Q σ H3
theorem Cd {o i : Expr} {to ti : TE} {t : xh} (ho : PE X o to) (hi : PE X i ti) (hs : Cb X t)
    (ha : ∀ v, assign (.Subscript o i pos) X.env v = (do
      let ov ← holding [v] (eval o X.env)
      let iv ← holding [v, ov] (eval i X.env)
      standAt pos
      holding [v, ov, iv] (setItem ov iv v)
      release [v, ov, iv] []) := by intro _; rfl) : PG X (.Subscript o i pos) (Im to ti t) := by
  intro pins s σ H v u Q I r h
  rw [ha]
  refine wpAny_bind (wpAny_holding (thn (ho pins s σ H _ I h) fun ov s1 ⟨x, H1, I1, r1, q1⟩ => ?_))
  refine wpAny_bind (wpAny_holding (thn (hi pins s1 σ H1 _ I1 q1) fun iv s2 ⟨y, H2, I2, r2, q2⟩ => ?_))
  refine wpAny_bind (wpAny_standAt (wpAny_bind (wpAny_holding (thn (hs pins s2 σ H2 x y v ov iv u _ I2 r1 r2 r q2) fun _ s3 ⟨H3, I3, q3⟩ => ?_))))
  exact wpAny_release ⟨σ, H3, I3, q3⟩
noncomputable def pI (te : TE) (g : TG) : TS := fun D σ H => te σ H fun x H1 => g x σ H1 D.nx
theorem Ce {tg e : Expr} {te : TE} {g : TG} (he : PE X e te) (hg : PG X tg g) (hs : swapsWithSole [tg] e pos.line X.env = pure false := by rfl) (hw : swappedStores [tg] e X.env = pure none := by rfl)
    (h1 : (assignEach [tg] X.env).map (·.2) = [assign tg X.env] := by rfl) : PS X (.Assign [tg] e pos) (pI te g) := by
  refine ⟨?_⟩
  intro pins s σ H D I h
  refine wpAny_Assign_stores (thn (he pins s σ H _ I h) fun v s1 ⟨x, H1, I1, r1, q1⟩ => ?_) hs hw
  rw [h1]
  exact thn (hg pins s1 σ H1 x v _ I1 r1 q1) fun _ s2 q => q
theorem Cg {i : Nat} {x : Str} {e : Expr} {te : TE} {pos' : Pos} (hN : X.N.Nodup) (hi : X.N[i]? = some x) (hx : Loc X.env.scope x) (he : PE X e te) (hs : swapsWith e (some (.Name x pos')) pos.line X.env = pure false := by rfl) (hf : X.fn x = true ∨ X.env.scope.names.lookup x = some .local := by first | exact .inl rfl | exact .inr rfl | assumption) :
    PS X (.Assign [.Name x pos'] e pos) (pI te (o9 i)) := by
  refine ⟨?_⟩
  intro pins s σ H D I h
  refine wpAny_Assign_Name (thn (he pins s σ H _ I h) fun v s1 ⟨y, H1, I1, r1, q1⟩ => ?_) hs
  exact pH I1 hN hi hx r1 (fun s2 I2 => ⟨_, H1, I2, q1⟩) hf
end
section
variable {X : Cx} {pos : Pos}
noncomputable def uU (c : TT) (tb : TS) : TS := fun D σ H => ∃ W : Nat → St → Hp → Prop, (∃ m, W m σ H) ∧ ∀ m σ H, W m σ H →
  c σ H fun b H1 => if b = true then ∃ N : St → Hp → Prop, (∀ aJ H', N aJ H' → ∃ m', m' < m ∧ W m' aJ H') ∧ tb { D with nx := N, ct := N, bk := D.nx } σ H1 else D.nx σ H1
theorem xi {c : Expr} {body : List Stmt} {tc : TT} {tb : TS} (hp : PassesOwn (model X.prog X.w) X.A X.env X.xe) (hc : PT X c tc) (hb : dO X body tb) : PS X (.While c body [] pos) (uU tc tb) := by
  refine ⟨?_⟩
  intro pins s σ H D I h
  obtain ⟨W, ⟨m0, w0⟩, turn⟩ := h
  refine wpAny_While (codeAny_whileLoop (fun n s' => ∃ aJ H', Inv X pins aJ H' s' ∧ W n aJ H') ?_ m0 ⟨σ, H, I, w0⟩)
  rintro n s1 ⟨nU, H1, I1, w1⟩
  refine wpAny_passesOwn hp (thn (hc pins s1 nU H1 _ I1 (turn n nU H1 w1)) fun b s2 ⟨H2, I2, q2⟩ => ?_)
  cases b with
  | true =>
    obtain ⟨N, hN, q2⟩ := q2
    rw [if_pos rfl]
    refine wpAny_passesOwn hp (thn (hb pins s2 nU H2 _ I2 q2) fun f s3 q3 => ?_)
    cases f with
    | next =>
      obtain ⟨jz, H3, I3, n3⟩ := q3
      obtain ⟨m', hm, w3⟩ := hN jz H3 n3
      exact ⟨m', hm, jz, H3, I3, w3⟩
    | cont =>
      obtain ⟨jz, H3, I3, n3⟩ := q3
      obtain ⟨m', hm, w3⟩ := hN jz H3 n3
      exact ⟨m', hm, jz, H3, I3, w3⟩
    | brk => exact q3
    | ret v => exact q3
  | false =>
    rw [if_neg Bool.false_ne_true]
    exact wpAny_execs_nil ⟨nU, H2, I2, q2⟩
end
structure It where
  go : Nat → Hp → Prop
  yld : Nat → Hp → V → Hp → Prop
  stop : Nat → Hp → Prop
noncomputable def eZ (X : Cx) (pins : List (Addr × Obj)) (H : Hp) (b : Addr) : Prop :=
  H b = none ∧ b ≠ X.env.locals ∧ b ∉ X.fs ∧ (b ∈ X.ex ∨ X.s₀.heap.objs.size ≤ b) ∧ (∀ x c, X.env.cells.lookup x = some c → c ≠ b) ∧ ∀ p ∈ X.pn ++ pins, p.1 ≠ b
theorem Inv.tj {X : Cx} {pins : List (Addr × Obj)} {σ : St} {H H' : Hp} {s : Shared} {b : Addr} (I : Inv X pins σ H s) (hb : s.heap.objs.size ≤ b) (hn : H' b = none) : eZ X pins H' b := by
  refine ⟨hn, Nat.ne_of_gt (Nat.lt_of_lt_of_le I.lt hb), I.BU hb, .inr (Nat.le_trans I.sz hb), fun x c e z => ?_, fun p hp z => ?_⟩
  · obtain ⟨v, q⟩ := I.cell x c e
    exact absurd (Nat.lt_of_lt_of_le q.lt (by rw [z]; exact hb)) (Nat.lt_irrefl _)
  · exact absurd (Nat.lt_of_lt_of_le (Heap.lt_size (I.pin p hp).1) (by rw [z]; exact hb)) (Nat.lt_irrefl _)
structure Turn (P : Program) (w : World) (K : PySem.W.Frag) (tg : Expr) (J : It) (fp : List Addr) (it : Addr) (tn : Nat → Heap → Prop) : Prop where
  mem : it ∈ fp
  obj : ∀ i h, tn i h → ∀ b ∈ fp, ∃ o, h.get? b = some o ∧ ∀ v, o.data ≠ .cell v
  keep : ∀ i h h', tn i h → (∀ b ∈ fp, ∀ o, h.get? b = some o → h'.get? b = some o) → tn i h'
  item : ∀ (X : Cx), X.prog = P → X.w = w → X.K = K → X.calm = true → ∀ (i : Nat) (pins : List (Addr × Obj)) (s : Shared) (σ : St) (H : Hp) (E : Value → Shared → Prop), Inv X pins σ H s → (∀ b ∈ fp, eZ X pins H b) → tn i s.heap → J.go i H →
    wpAny (model P w) X.A (pyNext (.ref it)) (fun r s1 => ∃ u, r = some u ∧
      wpAny (model P w) X.A (letOwnedTupleGo tg (.ref it) u) (fun _ s2 => ∃ x H', Inv X pins σ H' s2 ∧ RelV x u ∧ J.yld i H x H' ∧ tn (i + 1) s2.heap ∧ ∀ b ∈ fp, H' b = none) E s1) E s
  done : ∀ (X : Cx), X.prog = P → X.w = w → X.K = K → X.calm = true → ∀ (i : Nat) (pins : List (Addr × Obj)) (s : Shared) (σ : St) (H : Hp) (E : Value → Shared → Prop), Inv X pins σ H s → (∀ b ∈ fp, eZ X pins H b) → tn i s.heap → J.stop i H →
    wpAny (model P w) X.A (pyNext (.ref it)) (fun r s1 => r = none ∧ Inv X pins σ H s1) E s
  self : ∀ (A : Around) (i : Nat) (s : Shared) (Q : Value → Shared → Prop) (E : Value → Shared → Prop), tn i s.heap → Q (.ref it) s → wpAny (model P w) A (pyIter (.ref it)) Q E s
noncomputable abbrev TI := St → Hp → (It → Hp → Prop) → Prop
noncomputable def GY (X : Cx) (pins : List (Addr × Obj)) (σ : St) (tg : Expr) (R : It → Hp → Prop) (uV : Value) (s2 : Shared) : Prop :=
  ∃ (it : Addr) (fp : List Addr) (tn : Nat → Heap → Prop) (J : It) (H' : Hp), uV = .ref it ∧ Inv X pins σ H' s2 ∧ Turn X.prog X.w X.K tg J fp it tn ∧ tn 0 s2.heap ∧ (∀ b ∈ fp, eZ X pins H' b) ∧ R J H'
noncomputable def PI (X : Cx) (tg iter : Expr) (wi : TI) : Prop :=
  ∀ (pins : List (Addr × Obj)) (s : Shared) (σ : St) (H : Hp) (R : It → Hp → Prop), Inv X pins σ H s → wi σ H R →
    wpAny (model X.prog X.w) X.A (eval iter X.env) (fun v s1 => wpAny (model X.prog X.w) X.A (pyIter v) (GY X pins σ tg R) X.xe s1) X.xe s
theorem tm {M : Model} {A : Around} {E : Value → Shared → Prop} {s : Shared} {tg : Expr} {it : Addr} {u : Value} {o : Obj} {n : String} {vs : Array Value} {Q : Unit → Shared → Prop} (ho : s.heap.get? it = some o) (hc : o.cls = .type n) (hd : o.data = .fields vs)
    (hn : ["enumerate", "zip", "dict_itemiterator", "dict_reverseitemiterator", "odict_iterator", "itertools.zip_longest", "itertools.pairwise"].contains n = false) (hQ : Q () s) : wpAny M A (letOwnedTupleGo tg (.ref it) u) Q E s := by
  unfold letOwnedTupleGo
  cases tg <;> first
    | exact wpAny_pure hQ
    | (cases u <;> first
        | exact wpAny_pure hQ
        | (refine wpAny_bind (wpAny_load ho ?_)
           rw [hc, hd]
           show wpAny M A (if (["enumerate", "zip", "dict_itemiterator", "dict_reverseitemiterator", "odict_iterator", "itertools.zip_longest", "itertools.pairwise"].contains n && vs[0]? == some (rawInt _)) = true then _ else _) Q E s
           rw [if_neg (by intro h; rw [hn, Bool.false_and] at h; cases h)]
           exact wpAny_pure hQ))
noncomputable def Ci (K : PySem.W.Frag) (a : Addr) : It :=
  ⟨fun i H => ∃ xs x, bQ K H a xs ∧ xs[i]? = some x, fun i H x H' => H' = H ∧ ∀ xs, bQ K H a xs → xs[i]? = some x, fun i H => ∃ xs, bQ K H a xs ∧ xs.length ≤ i⟩
noncomputable def Cj (K : PySem.W.Frag) (a : Addr) : It :=
  ⟨fun i H => ∃ xs x, bW K H a xs ∧ xs[i]? = some x, fun i H x H' => H' = H ∧ ∀ xs, bW K H a xs → xs[i]? = some x, fun i H => ∃ xs, bW K H a xs ∧ xs.length ≤ i⟩
noncomputable def y8 (lo : Int) (n : Nat) : It := ⟨fun i _ => i < n, fun i H x H' => H' = H ∧ x = .int (lo + i), fun i _ => n ≤ i⟩
theorem uW {P : Program} {w : World} {K : PySem.W.Frag} {tg : Expr} (a it : Addr) : Turn P w K tg (Ci K a) [it] it (fun i h => h.IsListIter it a i) where
  mem := by simp
  obj := fun i h st b hb => by
    have e : b = it := by simpa using hb
    subst e
    obtain ⟨o, e, c, d⟩ := st
    exact ⟨o, e, fun v z => by rw [d] at z; cases z⟩
  keep := fun i h h' st k => st.at fun o e => k it (by simp) o e
  item := by
    intro X hP hw hK hc i pins s σ H E I hf st hg
    subst hP hw hK
    obtain ⟨xs, x, hq, hx⟩ := hg
    obtain ⟨its, rv, p, hz⟩ := I.list hq
    obtain ⟨u, hu, ru⟩ := rv.get hx
    obtain ⟨f0, f1, f2, f3, f4, f5⟩ := hf it (by simp)
    refine wpAny_pyNext_list_item st p.isList (x := u) (by simpa using hu) fun h' nV sb => ?_
    have I1 : Inv X pins σ H { s with heap := h' } := I.turned (t' := s.toks) (fun b o hb e => (sb.2 b hb).trans e) f0 f1 f3 f4 f5
    obtain ⟨o, e, c, d⟩ := id nV
    exact ⟨u, rfl, tm (s := { s with heap := h' }) e c d (by decide) ⟨x, H, I1, ru, ⟨rfl, fun ys hy => by rw [I.xc hy hq]; exact hx⟩, nV, fun b hb => (hf b hb).1⟩⟩
  done := by
    intro X hP hw hK hc i pins s σ H E I hf st hg
    subst hP hw hK
    obtain ⟨xs, hq, hx⟩ := hg
    obtain ⟨its, rv, p, hz⟩ := I.list hq
    obtain ⟨f0, f1, f2, f3, f4, f5⟩ := hf it (by simp)
    have hl := rv.length
    exact wpAny_pyNext_list_end (I.ok.hd hc) st p.isList (by simp; omega) fun h' eb => ⟨rfl, I.turned (t' := s.toks) (fun b o hb e => eb b o hb e) f0 f1 f3 f4 f5⟩
  self := fun _ _ _ _ _ st h => wpAny_pyIter_listiter st h
theorem tq {P : Program} {w : World} {K : PySem.W.Frag} {tg : Expr} (a it : Addr) : Turn P w K tg (Cj K a) [it] it (fun i h => h.IsTupleIter it a i) where
  mem := by simp
  obj := fun i h st b hb => by
    have e : b = it := by simpa using hb
    subst e
    obtain ⟨o, e, c, d⟩ := st
    exact ⟨o, e, fun v z => by rw [d] at z; cases z⟩
  keep := fun i h h' st k => st.at fun o e => k it (by simp) o e
  item := by
    intro X hP hw hK hc i pins s σ H E I hf st hg
    subst hP hw hK
    obtain ⟨xs, x, hq, hx⟩ := hg
    obtain ⟨its, rv, p, hz⟩ := I.tuple hq
    obtain ⟨u, hu, ru⟩ := rv.get hx
    obtain ⟨f0, f1, f2, f3, f4, f5⟩ := hf it (by simp)
    refine wpAny_pyNext_tuple_item st (show s.heap.IsTuple a its.toArray from p) (x := u) (by simpa using hu) fun h' nV sb => ?_
    have I1 : Inv X pins σ H { s with heap := h' } := I.turned (t' := s.toks) (fun b o hb e => (sb.2 b hb).trans e) f0 f1 f3 f4 f5
    obtain ⟨o, e, c, d⟩ := id nV
    exact ⟨u, rfl, tm (s := { s with heap := h' }) e c d (by decide) ⟨x, H, I1, ru, ⟨rfl, fun ys hy => by rw [I.uP hy hq]; exact hx⟩, nV, fun b hb => (hf b hb).1⟩⟩
  done := by
    intro X hP hw hK hc i pins s σ H E I hf st hg
    subst hP hw hK
    obtain ⟨xs, hq, hx⟩ := hg
    obtain ⟨its, rv, p, hz⟩ := I.tuple hq
    obtain ⟨f0, f1, f2, f3, f4, f5⟩ := hf it (by simp)
    have hl := rv.length
    exact wpAny_pyNext_tuple_end (I.ok.hd hc) st (show s.heap.IsTuple a its.toArray from p) (by simp; omega) fun h' eb => ⟨rfl, I.turned (t' := s.toks) (fun b o hb e => eb b o hb e) f0 f1 f3 f4 f5⟩
  self := fun _ _ _ _ _ st h => wpAny_pyIter_tupleiter st h
theorem ts {P : Program} {w : World} {K : PySem.W.Frag} {tg : Expr} (it : Addr) (lo : Int) (n : Nat) : Turn P w K tg (y8 lo n) [it] it (fun i h => IsRangeIter h it (lo + (i : Nat) * 1) ((n : Int) - (i : Nat)) 1) where
  mem := by simp
  obj := fun i h st b hb => by
    have e : b = it := by simpa using hb
    subst e
    exact ⟨_, st, fun v z => by
      have z' : Data.fields _ = Data.cell v := z
      cases z'⟩
  keep := fun i h h' st k => k it (by simp) _ st
  item := by
    intro X hP hw hK hc i pins s σ H E I hf st hg
    subst hP hw hK
    obtain ⟨f0, f1, f2, f3, f4, f5⟩ := hf it (by simp)
    have W := Walks.range (prog := X.prog) (w := X.w) (I.ok.hd hc) it lo 1 n
    refine W.item i s _ _ hg st fun v h' tk hv nV kk => ?_
    obtain ⟨t, rfl⟩ := hv
    have I1 : Inv X pins σ H { s with heap := h', toks := tk } := I.turned (fun b o hb e => kk b o (by simpa using hb) e) f0 f1 f3 f4 f5
    refine ⟨_, rfl, tm (s := { s with heap := h', toks := tk }) (n := "range_iterator") nV rfl rfl (by decide) ⟨.int (lo + i), H, I1, ⟨t, ?_⟩, ⟨rfl, rfl⟩, nV, fun b hb => (hf b hb).1⟩⟩
    rw [Int.mul_one]
  done := by
    intro X hP hw hK hc i pins s σ H E I hf st hg
    subst hP hw hK
    obtain ⟨f0, f1, f2, f3, f4, f5⟩ := hf it (by simp)
    exact wpAny_pyNext_range_end (I.ok.hd hc) st (by have : n ≤ i := hg; omega) fun h' eb => ⟨rfl, I.turned (t' := s.toks) (fun b o hb e => eb b o hb e) f0 f1 f3 f4 f5⟩
  self := fun _ _ _ _ _ st h => wpAny_pyIter_rangeiter st h
section
variable {X : Cx} {tg : Expr}
noncomputable def y9 (K : PySem.W.Frag) (tl : TE) : TI := fun σ H R => tl σ H fun x H1 => ∃ a, x = .ref a ∧ (∃ xs, bQ K H1 a xs) ∧ R (Ci K a) H1
noncomputable def Ck (K : PySem.W.Frag) (tl : TE) : TI := fun σ H R => tl σ H fun x H1 => ∃ a, x = .ref a ∧ (∃ xs, bW K H1 a xs) ∧ R (Cj K a) H1
theorem Ae {l : Expr} {tl : TE} (hl : PE X l tl) : PI X tg l (y9 X.K tl) := by
  intro pins s σ H R I h
  refine thn (hl pins s σ H _ I h) fun v s1 ⟨x, H1, I1, r1, q1⟩ => ?_
  obtain ⟨a, e, ⟨xs, hq⟩, q⟩ := q1
  subst e
  cases r1
  obtain ⟨its, rv, p, hz⟩ := I1.list hq
  refine wpAny_pyIter_list p.isList ?_
  refine ⟨s1.heap.objs.size, [s1.heap.objs.size], _, _, H1, rfl, I1.kept (t' := s1.toks) fun b o e => Heap.get?_push_of_some _ e, uW a _, ⟨_, Heap.get?_push_size _ rfl, rfl, rfl⟩, fun b hb => ?_, q⟩
  have e : b = s1.heap.objs.size := by simpa using hb
  subst e
  exact I1.tj (Nat.le_refl _) (I1.hok.fresh (Nat.le_refl _))
theorem Cm {l : Expr} {tl : TE} (hl : PE X l tl) : PI X tg l (Ck X.K tl) := by
  intro pins s σ H R I h
  refine thn (hl pins s σ H _ I h) fun v s1 ⟨x, H1, I1, r1, q1⟩ => ?_
  obtain ⟨a, e, ⟨xs, hq⟩, q⟩ := q1
  subst e
  cases r1
  obtain ⟨its, rv, p, hz⟩ := I1.tuple hq
  refine wpAny_pyIter_tuple (show s1.heap.IsTuple a its.toArray from p) ?_
  refine ⟨s1.heap.objs.size, [s1.heap.objs.size], _, _, H1, rfl, I1.kept (t' := s1.toks) fun b o e => Heap.get?_push_of_some _ e, tq a _, ⟨_, Heap.get?_push_size _ rfl, rfl, rfl⟩, fun b hb => ?_, q⟩
  have e : b = s1.heap.objs.size := by simpa using hb
  subst e
  exact I1.tj (Nat.le_refl _) (I1.hok.fresh (Nat.le_refl _))
theorem xj {pins : List (Addr × Obj)} {σ : St} {H : Hp} {s : Shared} {R : It → Hp → Prop} {E : Value → Shared → Prop} {lo hi : Int} {t u v : Tok} {tk : Nat} (I : Inv X pins σ H s) (h1 : -(2 ^ 62) ≤ lo) (h2 : lo < 2 ^ 62) (h3 : -(2 ^ 62) ≤ hi) (h4 : hi < 2 ^ 62)
    (q : R (y8 lo (hi - lo).toNat) H) : wpAny (model X.prog X.w) X.A (pyIter (.ref s.heap.objs.size)) (GY X pins σ tg R) E { s with heap := s.heap.push { cls := .type "range", data := .fields #[.int lo t, .int hi u, .int 1 v] }, toks := tk } := by
  refine wpAny_pyIter_range (IsRange.new ..) (small_one h1 h2 h3 h4) ?_
  have I1 : Inv X pins σ H { s with heap := s.heap.push { cls := .type "range", data := .fields #[.int lo t, .int hi u, .int 1 v] }, toks := tk } := I.kept fun b o e => Heap.get?_push_of_some _ e
  refine ⟨(s.heap.push { cls := .type "range", data := .fields #[.int lo t, .int hi u, .int 1 v] }).objs.size, [(s.heap.push { cls := .type "range", data := .fields #[.int lo t, .int hi u, .int 1 v] }).objs.size], _, _, H, rfl,
    I1.kept (t' := tk) fun b o e => Heap.get?_push_of_some _ e, ts _ lo (hi - lo).toNat, ?_, fun b hb => ?_, q⟩
  · have e1 : lo + ((0 : Nat) : Int) * 1 = lo := by simp
    have e2 : (((hi - lo).toNat : Nat) : Int) - ((0 : Nat) : Int) = Builtin.Range.rangeSize lo hi 1 := by rw [rangeSize_one]; split <;> omega
    show IsRangeIter _ _ (lo + ((0 : Nat) : Int) * 1) ((((hi - lo).toNat : Nat) : Int) - ((0 : Nat) : Int)) 1
    rw [e1, e2]
    exact Heap.get?_push_size _ rfl
  · have e : b = (s.heap.push { cls := .type "range", data := .fields #[.int lo t, .int hi u, .int 1 v] }).objs.size := by simpa using hb
    subst e
    exact I1.tj (Nat.le_refl _) (I1.hok.fresh (Nat.le_refl _))
noncomputable def zb (ta : TA) : TI := fun σ H R => ta σ H fun vs H1 => ∃ j : Int, vs = [.int j] ∧ -(2 ^ 62) ≤ j ∧ j < 2 ^ 62 ∧ R (y8 0 j.toNat) H1
theorem uX {a : Expr} {ta : TA} {p pos : Pos} (hg : Gl X "range") (hm : X.mg "range" = none) (ha : PA X [a] ta) (hs : starEach [a] X.env = [(false, eval a X.env)] := by rfl) : PI X tg (.Call (.Name "range" p) [a] [] pos) (zb ta) := by
  intro pins s σ H R I h
  refine Call_ (gP I hg hm boot_range (PyProof.Rows.callWith_type1 (thn (ha pos pins s σ H _ I h) fun us s1 ⟨vs, H1, I1, r1, q1⟩ => ?_) hs rfl))
  obtain ⟨j, e, q1, q2, q⟩ := q1
  subst e
  cases r1 with
  | cons r rr =>
    cases rr
    obtain ⟨t, rfl⟩ := r
    exact call_range_1 (xj I1 (by omega) (by omega) q1 q2 (by simpa using q))
noncomputable def Cp (wi : TI) (g : TG) (tb : TS) : TS := fun D σ H => wi σ H fun J H1 => ∃ W : Nat → Nat → St → Hp → Prop, (∃ m, W 0 m σ H1) ∧ ∀ i m σ H, W i m σ H →
  (J.stop i H ∧ D.nx σ H) ∨ (J.go i H ∧ ∃ N : St → Hp → Prop, (∀ aJ H', N aJ H' → ∃ m', m' < m ∧ W (i + 1) m' aJ H') ∧ ∀ x H', J.yld i H x H' → g x σ H' fun gb H2 => tb { D with nx := N, ct := N, bk := D.nx } gb H2)
noncomputable def iN (fp : List Addr) (h : Heap) : List (Addr × Obj) := fp.filterMap fun b => (h.get? b).map fun o => (b, o)
theorem ef {fp : List Addr} {h : Heap} {b : Addr} {o : Obj} (hb : b ∈ fp) (e : h.get? b = some o) : (b, o) ∈ iN fp h := List.mem_filterMap.mpr ⟨b, hb, by rw [e]; rfl⟩
theorem uY {fp : List Addr} {h : Heap} {p : Addr × Obj} (hp : p ∈ iN fp h) : p.1 ∈ fp ∧ h.get? p.1 = some p.2 := by
  obtain ⟨b, hb, e⟩ := List.mem_filterMap.mp hp
  cases q : h.get? b with
  | none => rw [q] at e; cases e
  | some o =>
    rw [q] at e
    have e' : (b, o) = p := Option.some.inj e
    subst e'
    exact ⟨hb, q⟩
theorem Inv.pinned {pins : List (Addr × Obj)} {σ : St} {H : Hp} {s : Shared} {fp : List Addr} (I : Inv X pins σ H s) (hf : ∀ b ∈ fp, eZ X pins H b) (ho : ∀ b ∈ fp, ∃ o, s.heap.get? b = some o ∧ ∀ v, o.data ≠ .cell v) : Inv X (pins ++ iN fp s.heap) σ H s :=
  I.mZ fun p hp => (List.mem_append.mp hp).elim (fun z => I.pin p (List.mem_append_right _ z)) fun z => by
    obtain ⟨hb, e⟩ := uY z
    obtain ⟨f0, f1, f2, _⟩ := hf p.1 hb
    obtain ⟨o, e', d⟩ := ho p.1 hb
    rw [e] at e'; cases e'
    exact ⟨e, f0, f1, f2, d⟩
theorem Inv.e6 {pins pl : List (Addr × Obj)} {σ : St} {H : Hp} {s : Shared} (I : Inv X (pins ++ pl) σ H s) : Inv X pins σ H s := I.mZ fun p hp => I.pin p (List.mem_append_right _ (List.mem_append_left _ hp))
theorem Cq {iter : Expr} {body : List Stmt} {wi : TI} {g : TG} {tb : TS} {pos : Pos} (hp : PassesOwn (model X.prog X.w) X.A X.env X.xe) (hc : X.calm = true) (hi : PI X tg iter wi) (hg : PG X tg g) (hb : dO X body tb)
    (hs : ∀ x, foldedSetIterable iter X.env x = pure x := by intro _; rfl) : PS X (.For tg iter body [] pos) (Cp wi g tb) := by
  refine ⟨?_⟩
  intro pins s σ H D I h
  refine wpAny_For (thn (hi pins s σ H _ I h) fun v s1 h1 => thn h1 fun uV s2 h2 => ?_) hs
  obtain ⟨it, fp, tn, J, H2, e, I2, T, pJ, f2, W, ⟨m0, w0⟩, turn⟩ := h2
  subst e
  have stat : ∀ {H' : Hp}, (∀ b ∈ fp, H' b = none) → ∀ b ∈ fp, eZ X pins H' b := fun hn b hb => ⟨hn b hb, (f2 b hb).2⟩
  refine codeAny_forLoop_any (fun n s' => ∃ i aJ H', Inv X pins aJ H' s' ∧ tn i s'.heap ∧ (∀ b ∈ fp, H' b = none) ∧ W i n aJ H') ?_ m0 ⟨0, σ, H2, I2, pJ, fun b hb => (f2 b hb).1, w0⟩
  rintro n s3 ⟨i, jz, H3, I3, nW, uZ, w3⟩
  rcases turn i n jz H3 w3 with ⟨stop, qn⟩ | ⟨go, N, hN, step⟩
  · refine wpAny_passesOwn hp (thn (T.done X rfl rfl rfl hc i pins s3 jz H3 X.xe I3 (stat uZ) nW stop) fun r s4 ⟨hr, I4⟩ => ?_)
    subst hr
    exact wpAny_execs_nil ⟨jz, H3, I4, qn⟩
  · refine wpAny_passesOwn hp (thn (T.item X rfl rfl rfl hc i pins s3 jz H3 X.xe I3 (stat uZ) nW go) fun r s4 ⟨u, hr, h4⟩ => ?_)
    subst hr
    refine wpAny_passesOwn hp (thn h4 fun _ s5 ⟨x, H5, I5, r5, y5, jF, u0⟩ => ?_)
    have u3 := I5.pinned (stat u0) (T.obj _ _ jF)
    refine wpAny_passesOwn hp (thn (hg _ s5 jz H5 x u _ u3 r5 (step x H5 y5)) fun _ s6 ⟨JO, H6, I6, q6⟩ => ?_)
    refine wpAny_passesOwn hp (thn (hb _ s6 JO H6 _ I6 q6) fun f s7 q7 => ?_)
    have again : ∀ {jG : St} {H7 : Hp}, Inv X (pins ++ iN fp s5.heap) jG H7 s7 → N jG H7 → ∃ m, m < n ∧ ∃ i aJ H', Inv X pins aJ H' s7 ∧ tn i s7.heap ∧ (∀ b ∈ fp, H' b = none) ∧ W i m aJ H' := fun {jG H7} I7 n7 => by
      obtain ⟨m', hm, w7⟩ := hN jG H7 n7
      refine ⟨m', hm, i + 1, jG, H7, I7.e6, T.keep _ _ _ jF fun b hb o e => (I7.pin (b, o) (List.mem_append_right _ (List.mem_append_right _ (ef hb e)))).1, fun b hb => ?_, w7⟩
      obtain ⟨o, e, d⟩ := T.obj _ _ jF b hb
      exact (I7.pin (b, o) (List.mem_append_right _ (List.mem_append_right _ (ef hb e)))).2.1
    cases f with
    | next => obtain ⟨jG, H7, I7, n7⟩ := q7; exact again I7 n7
    | cont => obtain ⟨jG, H7, I7, n7⟩ := q7; exact again I7 n7
    | brk => obtain ⟨jG, H7, I7, q7⟩ := q7; exact ⟨jG, H7, I7.e6, q7⟩
    | ret v => obtain ⟨x7, jG, H7, I7, r7, q7⟩ := q7; exact ⟨x7, jG, H7, I7.e6, r7, q7⟩
end
noncomputable abbrev R2 := V → V → Hp → VK → Prop
noncomputable def OpR (X : Cx) (f : Value → Value → Sem Value) (r : R2) : Prop :=
  ∀ (pins : List (Addr × Obj)) (s : Shared) (σ : St) (H : Hp) (x y : V) (v u : Value) (Q : VK), Inv X pins σ H s → RelV x v → RelV y u → r x y H Q →
    wpAny (model X.prog X.w) X.A (f v u) (EP X pins σ Q) X.xe s
noncomputable def UnR (X : Cx) (f : Value → Sem Value) (r : V → Hp → VK → Prop) : Prop :=
  ∀ (pins : List (Addr × Obj)) (s : Shared) (σ : St) (H : Hp) (x : V) (v : Value) (Q : VK), Inv X pins σ H s → RelV x v → r x H Q →
    wpAny (model X.prog X.w) X.A (f v) (EP X pins σ Q) X.xe s
noncomputable def cL (X : Cx) (f : Value) (r : List V → Hp → VK → Prop) : Prop :=
  ∀ (pins : List (Addr × Obj)) (s : Shared) (σ : St) (H : Hp) (xs : List V) (us : List Value) (Q : VK), Inv X pins σ H s → Vals xs us → r xs H Q →
    wpAny (model X.prog X.w) X.A (call f us) (EP X pins σ Q) X.xe s
noncomputable def Io (X : Cx) (r : V → Hp → (Bool → Hp → Prop) → Prop) : Prop :=
  ∀ (pins : List (Addr × Obj)) (s : Shared) (σ : St) (H : Hp) (x : V) (v : Value) (Q : Bool → Hp → Prop), Inv X pins σ H s → RelV x v → r x H Q →
    wpAny (model X.prog X.w) X.A (truthy v) (TP X pins σ Q) X.xe s
noncomputable def u5 (r : R2) (ta tb : TE) : TE := fun σ H Q => ta σ H fun x H1 => tb σ H1 fun y H2 => r x y H2 Q
noncomputable def JP (r : V → Hp → VK → Prop) (ta : TE) : TE := fun σ H Q => ta σ H fun x H1 => r x H1 Q
noncomputable def rI (C : Int → Int → Prop) (g : Int → Int → V) : R2 := fun x y H Q => ∃ i j, x = .int i ∧ y = .int j ∧ C i j ∧ Q (g i j) H
noncomputable def nX (g : Int → Int → V) : R2 := fun x y H Q => ∃ i j, x = .int i ∧ y = .int j ∧ Q (g i j) H
noncomputable def rU (g : Int → V) : V → Hp → VK → Prop := fun x H Q => ∃ i, x = .int i ∧ Q (g i) H
section
variable {X : Cx} {a b c : Expr} {ta tb tc : TE} {pos : Pos}
theorem xk (ha : PE X a ta) (hb : PE X b tb) {pins : List (Addr × Obj)} {s : Shared} {σ : St} {H : Hp} {R : V → V → Hp → Prop} (I : Inv X pins σ H s)
    (h : ta σ H fun x H1 => tb σ H1 fun y H2 => R x y H2) {Q : Value → Shared → Prop} {f : Value → Value → Sem Value}
    (hf : ∀ v u s2 x y H2, Inv X pins σ H2 s2 → RelV x v → RelV y u → R x y H2 → wpAny (model X.prog X.w) X.A (f v u) Q X.xe s2) :
    wpAny (model X.prog X.w) X.A (eval a X.env) (fun v aw => wpAny (model X.prog X.w) X.A (eval b X.env) (fun u iy => wpAny (model X.prog X.w) X.A (f v u) Q X.xe iy) X.xe aw) X.xe s := by
  refine thn (ha pins s σ H _ I h) fun v s1 ⟨x, H1, I1, r1, q1⟩ => ?_
  refine thn (hb pins s1 σ H1 _ I1 q1) fun u s2 ⟨y, H2, I2, r2, q2⟩ => ?_
  exact hf v u s2 x y H2 I2 r1 r2 q2
theorem FE {op : Operator} {r : R2} (ho : OpR X (binaryOp op) r) (ha : PE X a ta) (hb : PE X b tb) : PE X (.BinOp a op b pos) (u5 r ta tb) := by
  refine ⟨?_⟩
  intro pins s σ H Q I h
  exact wpAny_BinOp (xk ha hb I h fun v u s2 x y H2 I2 rx ry q => ho pins s2 σ H2 x y v u Q I2 rx ry q)
theorem FG {op : UnaryOp} {r : V → Hp → VK → Prop} (ho : UnR X (unaryOp op) r) (ha : PE X a ta) : PE X (.UnaryOp op a pos) (JP r ta) := by
  refine ⟨?_⟩
  intro pins s σ H Q I h
  exact UnaryOp_ (thn (ha pins s σ H _ I h) fun v s1 ⟨x, H1, I1, r1, q1⟩ => ho pins s1 σ H1 x v Q I1 r1 q1)
theorem zf {f : Value → Value → Sem Value} {C : Int → Int → Prop} {g : Int → Int → Int}
    (rule : ∀ (i j : Int) (t u : Tok) (s : Shared) (Q : Value → Shared → Prop) (E : Value → Shared → Prop), C i j → Q (.int (g i j) s.toks) { s with toks := s.toks + 1 } → wpAny (model X.prog X.w) X.A (f (.int i t) (.int j u)) Q E s) :
    OpR X f (rI C fun i j => .int (g i j)) := by
  intro pins s σ H x y v u Q I rx ry h
  obtain ⟨i, j, rfl, rfl, hc, q⟩ := h
  obtain ⟨t, rfl⟩ := rx
  obtain ⟨t', rfl⟩ := ry
  exact rule i j t t' s _ _ hc ⟨.int (g i j), H, I.tok _, ⟨_, rfl⟩, q⟩
theorem Cr {f : Value → Value → Sem Value} {g : Int → Int → Int}
    (rule : ∀ (i j : Int) (t u : Tok) (s : Shared) (Q : Value → Shared → Prop) (E : Value → Shared → Prop), Q (.int (g i j) s.toks) { s with toks := s.toks + 1 } → wpAny (model X.prog X.w) X.A (f (.int i t) (.int j u)) Q E s) :
    OpR X f (nX fun i j => .int (g i j)) := by
  intro pins s σ H x y v u Q I rx ry h
  obtain ⟨i, j, rfl, rfl, q⟩ := h
  obtain ⟨t, rfl⟩ := rx
  obtain ⟨t', rfl⟩ := ry
  exact rule i j t t' s _ _ ⟨.int (g i j), H, I.tok _, ⟨_, rfl⟩, q⟩
theorem xl {f : Value → Value → Sem Value} {g : Int → Int → Bool}
    (rule : ∀ (i j : Int) (t u : Tok) (s : Shared) (Q : Value → Shared → Prop) (E : Value → Shared → Prop), Q (.bool (g i j)) s → wpAny (model X.prog X.w) X.A (f (.int i t) (.int j u)) Q E s) :
    OpR X f (nX fun i j => .bl (g i j)) := by
  intro pins s σ H x y v u Q I rx ry h
  obtain ⟨i, j, rfl, rfl, q⟩ := h
  obtain ⟨t, rfl⟩ := rx
  obtain ⟨t', rfl⟩ := ry
  exact rule i j t t' s _ _ ⟨.bl (g i j), H, I, rfl, q⟩
noncomputable def xm (i j : Int) : Prop := 0 < j ∧ j < 1073741824
noncomputable def Ct (i j : Int) : Prop := 0 ≤ j ∧ j ≤ 1000000 ∧ i.natAbs < 2 ^ 64
noncomputable def tu (i j : Int) : Prop := (-(2 ^ 64) < i ∧ i < 2 ^ 64) ∨ (-(2 ^ 64) < j ∧ j < 2 ^ 64)
theorem tu.ok {i j : Int} (h : tu i j) : IntMulOk i j := by
  rcases h with ⟨h1, h2⟩ | ⟨h1, h2⟩
  · exact .of_left (intBits_le_64 h1 h2)
  · exact .of_right (intBits_le_64 h1 h2)
theorem Cu : OpR X (binaryOp .Add) (nX fun i j => .int (i + j)) := Cr fun _ _ _ _ _ _ _ q => add_int q
theorem Cv : OpR X (binaryOp .Sub) (nX fun i j => .int (i - j)) := Cr fun _ _ _ _ _ _ _ q => sub_int q
theorem Cw : OpR X (binaryOp .Mult) (rI tu fun i j => .int (i * j)) := zf fun _ _ _ _ _ _ _ hc q => mul_int q hc.ok
theorem Af : OpR X (binaryOp .FloorDiv) (rI xm fun i j => .int (i / j)) := zf fun i j _ _ _ _ _ hc q => by
  have h1 : (0 : Int) < j := hc.1
  have h2 : j < 1073741824 := hc.2
  exact floordiv_int (by omega) (by rw [Int.fdiv_eq_ediv_of_nonneg i (by omega)]; exact q) (.inl (PyProof.noPylong_small (by omega)))
theorem Cy : OpR X (binaryOp .Mod) (rI (fun _ j => 0 < j) fun i j => .int (i % j)) := zf fun i j _ _ _ _ _ hc q => by
  have h1 : (0 : Int) < j := hc
  exact mod_int' (by omega) (by rw [Int.fmod_eq_emod_of_nonneg i (by omega)]; exact q)
theorem Cz : OpR X (binaryOp .Pow) (rI Ct fun i j => .int (i ^ j.toNat)) := zf fun _ _ _ _ _ _ _ hc q => pow_int_small hc.1 hc.2.1 hc.2.2 q
theorem JQ {f : Value → Sem Value} {g : Int → Int}
    (rule : ∀ (i : Int) (t : Tok) (s : Shared) (Q : Value → Shared → Prop) (E : Value → Shared → Prop), Q (.int (g i) s.toks) { s with toks := s.toks + 1 } → wpAny (model X.prog X.w) X.A (f (.int i t)) Q E s) :
    UnR X f (rU fun i => .int (g i)) := by
  intro pins s σ H x v Q I rx h
  obtain ⟨i, rfl, q⟩ := h
  obtain ⟨t, rfl⟩ := rx
  exact rule i t s _ _ ⟨.int (g i), H, I.tok _, ⟨_, rfl⟩, q⟩
theorem CA : UnR X (unaryOp .USub) (rU fun i => .int (-i)) := JQ fun _ _ _ _ _ q => neg_int q
end
noncomputable def xn : V → V → Bool
  | .aC, .aC => true | .aC, .int _ => true | .int _, .aC => true | .aC, .bl _ => true | .bl _, .aC => true | .aC, .str _ => true | .str _, .aC => true
  | .int _, .int _ => true | .bl _, .bl _ => true | .str _, .str _ => true | .gL _, .gL _ => true
  | .int _, .str _ => true | .str _, .int _ => true | .bl _, .str _ => true | .str _, .bl _ => true
  | _, _ => false
noncomputable def JR : R2 := fun x y H Q => xn x y = true ∧ Q (.bl (decide (x = y))) H
noncomputable def JS : R2 := fun x y H Q => xn x y = true ∧ Q (.bl (!decide (x = y))) H
theorem su {i j : Int} : decide (V.int i = V.int j) = (i == j) := by
  rw [Bool.eq_iff_iff]
  simp
theorem u6 {i j : Bool} : decide (V.bl i = V.bl j) = (i == j) := by
  rw [Bool.eq_iff_iff]
  simp
theorem sv {i j : Str} : decide (V.str i = V.str j) = (i == j) := by
  rw [Bool.eq_iff_iff]
  simp
theorem sx {i j : Array UInt8} : decide (V.gL i = V.gL j) = (i.toList == j.toList) := by
  rw [Bool.eq_iff_iff]
  cases i
  cases j
  simp
section
variable {X : Cx} {a b c : Expr} {ta tb tc : TE} {pos : Pos}
theorem aZ {pins : List (Addr × Obj)} {σ : St} {H : Hp} {s : Shared} {Q : VK} {k k' : Bool} (I : Inv X pins σ H s) (q : Q (.bl k) H) (e : k = k') : EP X pins σ Q (.bool k') s := by
  subst e
  exact ⟨.bl k, H, I, rfl, q⟩
theorem FH : OpR X (compareOp .Eq) JR := by
  intro pins s σ H x y v u Q I rx ry h
  obtain ⟨hs, q⟩ := h
  cases x with
  | aC =>
    cases rx
    cases y with
    | aC => cases ry; exact PySem.EqNone.eq_none_none (aZ I q (by simp))
    | bl j => cases ry; exact PySem.EqNone.eq_none_bool (aZ I q (by simp))
    | int j => obtain ⟨t', rfl⟩ := ry; exact PySem.EqNone.eq_none_int (aZ I q (by simp))
    | str j => obtain ⟨t', rfl⟩ := ry; exact PySem.EqNone.eq_none_str (aZ I q (by simp))
    | _ => exact absurd (show false = true from hs) Bool.false_ne_true
  | bl i =>
    cases rx
    cases y with
    | aC => cases ry; exact PySem.EqNone.eq_bool_none (aZ I q (by simp))
    | bl j => cases ry; exact eq_bool (aZ I q u6)
    | str j => obtain ⟨t', rfl⟩ := ry; exact PySem.EqMixed.eq_bool_str (aZ I q (by simp))
    | _ => exact absurd (show false = true from hs) Bool.false_ne_true
  | int i =>
    obtain ⟨t, rfl⟩ := rx
    cases y with
    | aC => cases ry; exact PySem.EqNone.eq_int_none (aZ I q (by simp))
    | int j => obtain ⟨t', rfl⟩ := ry; exact eq_int (aZ I q su)
    | str j => obtain ⟨t', rfl⟩ := ry; exact PySem.EqMixed.eq_int_str (aZ I q (by simp))
    | _ => exact absurd (show false = true from hs) Bool.false_ne_true
  | str i =>
    obtain ⟨t, rfl⟩ := rx
    cases y with
    | aC => cases ry; exact PySem.EqNone.eq_str_none (aZ I q (by simp))
    | bl j => cases ry; exact PySem.EqMixed.eq_str_bool (aZ I q (by simp))
    | int j => obtain ⟨t', rfl⟩ := ry; exact PySem.EqMixed.eq_str_int (aZ I q (by simp))
    | str j => obtain ⟨t', rfl⟩ := ry; exact eq_str (aZ I q sv)
    | _ => exact absurd (show false = true from hs) Bool.false_ne_true
  | gL i =>
    obtain ⟨t, rfl⟩ := rx
    cases y with
    | gL j => obtain ⟨t', rfl⟩ := ry; exact PySem.W.eq_bytes (aZ I q sx)
    | _ => exact absurd (show false = true from hs) Bool.false_ne_true
  | _ => cases y <;> exact absurd (show false = true from hs) Bool.false_ne_true
theorem FI : OpR X (compareOp .NotEq) JS := by
  intro pins s σ H x y v u Q I rx ry h
  obtain ⟨hs, q⟩ := h
  cases x with
  | aC =>
    cases rx
    cases y with
    | aC => cases ry; exact PySem.EqNone.ne_none_none (aZ I q (by simp))
    | bl j => cases ry; exact PySem.EqNone.ne_none_bool (aZ I q (by simp))
    | int j => obtain ⟨t', rfl⟩ := ry; exact PySem.EqNone.ne_none_int (aZ I q (by simp))
    | str j => obtain ⟨t', rfl⟩ := ry; exact PySem.EqNone.ne_none_str (aZ I q (by simp))
    | _ => exact absurd (show false = true from hs) Bool.false_ne_true
  | bl i =>
    cases rx
    cases y with
    | aC => cases ry; exact PySem.EqNone.ne_bool_none (aZ I q (by simp))
    | bl j => cases ry; exact ne_bool (aZ I q (congrArg not u6))
    | str j => obtain ⟨t', rfl⟩ := ry; exact PySem.EqMixed.ne_bool_str (aZ I q (by simp))
    | _ => exact absurd (show false = true from hs) Bool.false_ne_true
  | int i =>
    obtain ⟨t, rfl⟩ := rx
    cases y with
    | aC => cases ry; exact PySem.EqNone.ne_int_none (aZ I q (by simp))
    | int j => obtain ⟨t', rfl⟩ := ry; exact ne_int (aZ I q (congrArg not su))
    | str j => obtain ⟨t', rfl⟩ := ry; exact PySem.EqMixed.ne_int_str (aZ I q (by simp))
    | _ => exact absurd (show false = true from hs) Bool.false_ne_true
  | str i =>
    obtain ⟨t, rfl⟩ := rx
    cases y with
    | aC => cases ry; exact PySem.EqNone.ne_str_none (aZ I q (by simp))
    | bl j => cases ry; exact PySem.EqMixed.ne_str_bool (aZ I q (by simp))
    | int j => obtain ⟨t', rfl⟩ := ry; exact PySem.EqMixed.ne_str_int (aZ I q (by simp))
    | str j => obtain ⟨t', rfl⟩ := ry; exact ne_str (aZ I q (congrArg not sv))
    | _ => exact absurd (show false = true from hs) Bool.false_ne_true
  | gL i =>
    obtain ⟨t, rfl⟩ := rx
    cases y with
    | gL j => obtain ⟨t', rfl⟩ := ry; exact PySem.W.ne_bytes (aZ I q (congrArg not sx))
    | _ => exact absurd (show false = true from hs) Bool.false_ne_true
  | _ => cases y <;> exact absurd (show false = true from hs) Bool.false_ne_true
theorem FJ : OpR X (compareOp .Lt) (nX fun i j => .bl (decide (i < j))) := xl fun _ _ _ _ _ _ _ q => lt_int q
theorem FK : OpR X (compareOp .LtE) (nX fun i j => .bl (decide (i ≤ j))) := xl fun _ _ _ _ _ _ _ q => le_int q
theorem FL : OpR X (compareOp .Gt) (nX fun i j => .bl (decide (j < i))) := xl fun _ _ _ _ _ _ _ q => gt_int q
theorem bN (b : Expr) {op : CmpOp} (h : op ≠ .In := by decide) (h2 : op ≠ .NotIn := by decide) : behindInMarks op b = false := by
  have e1 : (op == CmpOp.In) = false := by cases op <;> first | rfl | exact absurd rfl h
  have e2 : (op == CmpOp.NotIn) = false := by cases op <;> first | rfl | exact absurd rfl h2
  cases b <;> simp [behindInMarks, e1, e2]
theorem Ag {op : CmpOp} {r : R2} (ho : OpR X (compareOp op) r) (ha : PE X a ta) (hb : PE X b tb) (hm : behindInMarks op b = false) : PE X (.Compare a [op] [b] pos) (u5 r ta tb) := by
  refine ⟨?_⟩
  intro pins s σ H Q I h
  exact wpAny_Compare1 (xk ha hb I h fun v u s2 x y H2 I2 rx ry q => ho pins s2 σ H2 x y v u Q I2 rx ry q) hm
noncomputable def tv (t : TE) : TT := fun σ H Q => t σ H fun x H' => ∃ k, x = .bl k ∧ Q k H'
theorem Ah {op : CmpOp} {r : R2} (ho : OpR X (compareOp op) r) (ha : PE X a ta) (hb : PE X b tb) (hm : behindInMarks op b = false) : PT X (.Compare a [op] [b] pos) (tv (u5 r ta tb)) := by
  refine ⟨?_⟩
  intro pins s σ H Q I h
  refine wpAny_isTrue_Compare1 (thn (ha pins s σ H _ I h) fun v s1 ⟨x, H1, I1, r1, q1⟩ => thn (hb pins s1 σ H1 _ I1 q1) fun u s2 ⟨y, H2, I2, r2, q2⟩ =>
    thn (ho pins s2 σ H2 x y v u _ I2 r1 r2 q2) fun c s3 ⟨z, H3, I3, r3, k, e, q3⟩ => ?_) hm
  subst e
  cases r3
  exact wpAny_truthy_bool ⟨H3, I3, q3⟩
noncomputable def pK (r r' : R2) (ta tb tc : TE) : TE := fun σ H Q => ta σ H fun x H1 => tb σ H1 fun y H2 => r x y H2 fun z H3 => ∃ k, z = .bl k ∧
  (if k = true then tc σ H3 fun w' H4 => r' y w' H4 Q else Q (.bl false) H3)
theorem xo {op gQ : CmpOp} {r r' : R2} (ho : OpR X (compareOp op) r) (gN : OpR X (compareOp gQ) r') (ha : PE X a ta) (hb : PE X b tb) (hc : PE X c tc)
    (hm : lastMarks [op, gQ] [b, c] = false := by with_unfolding_all rfl) : PE X (.Compare a [op, gQ] [b, c] pos) (pK r r' ta tb tc) := by
  refine ⟨?_⟩
  intro pins s σ H Q I h
  refine Compare_chain (thn (ha pins s σ H _ I h) fun v s1 ⟨x, H1, I1, r1, q1⟩ => chain_link (thn (hb pins s1 σ H1 _ I1 q1) fun u s2 ⟨y, H2, I2, r2, q2⟩ =>
    thn (ho pins s2 σ H2 x y v u _ I2 r1 r2 q2) fun d s3 ⟨z, H3, I3, r3, k, e, q3⟩ => ?_)) hm
  subst e
  cases r3
  refine wpAny_truthy_bool ?_
  cases k with
  | false => exact ite_ff ⟨.bl false, H3, I3, rfl, q3⟩
  | true => exact ite_tt (chain_last (thn (hc pins s3 σ H3 _ I3 q3) fun w' s4 ⟨z', H4, I4, r4, q4⟩ => gN pins s4 σ H4 y z' u w' Q I4 r2 r4 q4))
theorem xq {op gQ : CmpOp} {r r' : R2} (ho : OpR X (compareOp op) r) (gN : OpR X (compareOp gQ) r') (ha : PE X a ta) (hb : PE X b tb) (hc : PE X c tc)
    (hm : lastMarks [op, gQ] [b, c] = false := by with_unfolding_all rfl) : PT X (.Compare a [op, gQ] [b, c] pos) (tv (pK r r' ta tb tc)) := by
  refine ⟨?_⟩
  intro pins s σ H Q I h
  refine isTrue_chain (thn (ha pins s σ H _ I h) fun v s1 ⟨x, H1, I1, r1, q1⟩ => test_link (thn (hb pins s1 σ H1 _ I1 q1) fun u s2 ⟨y, H2, I2, r2, q2⟩ =>
    thn (ho pins s2 σ H2 x y v u _ I2 r1 r2 q2) fun d s3 ⟨z, H3, I3, r3, k, e, q3⟩ => ?_)) hm
  subst e
  cases r3
  refine wpAny_truthy_bool ?_
  cases k with
  | false =>
    obtain ⟨k', e', q'⟩ := q3
    cases e'
    exact ite_ff ⟨H3, I3, q'⟩
  | true =>
    refine ite_tt (test_last (thn (hc pins s3 σ H3 _ I3 q3) fun w' s4 ⟨z', H4, I4, r4, q4⟩ => thn (gN pins s4 σ H4 y z' u w' _ I4 r2 r4 q4) fun d' s5 ⟨z2, H5, I5, r5, k2, e2, q5⟩ => ?_))
    subst e2
    cases r5
    exact wpAny_truthy_bool ⟨H5, I5, q5⟩
noncomputable def Ip (K : PySem.W.Frag) (x : V) (H : Hp) (k : Bool) : Prop :=
  match x with
  | .aC => k = false
  | .bl b => k = b
  | .int i => k = (i != 0)
  | .str y => y.length ≤ sizeLine ∧ k = ((y.length : Int) != 0)
  | .gL y => y.size ≤ sizeLine ∧ k = ((y.size : Int) != 0)
  | .ref p => (∃ xs, bQ K H p xs ∧ k = !xs.isEmpty) ∨ (∃ xs, bW K H p xs ∧ k = !xs.isEmpty) ∨ ∃ bL, H p = some (.dK bL) ∧ k = !bL.isEmpty
  | _ => False
theorem tD {κ : Type} {bL : List (κ × V)} {vs : List (κ × Value)} (r : KV bL vs) : (!vs.isEmpty) = !bL.isEmpty := by
  cases r <;> rfl
theorem lP {xs : List V} {its : List Value} (r : Vals xs its) : (!its.toArray.isEmpty) = !xs.isEmpty := by
  cases r <;> simp
theorem iO : (sizeLine : Nat) < 2 ^ 63 := by rw [sizeLine_eq]; decide
theorem JT : Io X (fun x H Q => ∃ k, Ip X.K x H k ∧ Q k H) := by
  intro pins s σ H x v Q I rx h
  obtain ⟨k, e, q⟩ := h
  have hl := iO
  have hs : sizeLine = 16777216 := sizeLine_eq
  cases x with
  | aC =>
    cases rx
    have e' : k = false := e
    subst e'
    exact truthy_none ⟨H, I, q⟩
  | bl b =>
    cases rx
    have e' : k = b := e
    subst e'
    exact wpAny_truthy_bool ⟨H, I, q⟩
  | int i =>
    obtain ⟨t, rfl⟩ := rx
    have e' : k = (i != 0) := e
    subst e'
    exact PySem.P.truthy_int ⟨H, I, q⟩
  | str y =>
    obtain ⟨t, rfl⟩ := rx
    obtain ⟨hy, e'⟩ : y.length ≤ sizeLine ∧ k = ((y.length : Int) != 0) := e
    subst e'
    exact PySem.P.truthy_str (by omega) ⟨H, I.tok _, q⟩
  | gL y =>
    obtain ⟨t, rfl⟩ := rx
    obtain ⟨hy, e'⟩ : y.size ≤ sizeLine ∧ k = ((y.size : Int) != 0) := e
    subst e'
    exact PySem.W.truthy_bytes (by omega) ⟨H, I.tok _, q⟩
  | ref p =>
    cases rx
    have e' : (∃ xs, bQ X.K H p xs ∧ k = !xs.isEmpty) ∨ (∃ xs, bW X.K H p xs ∧ k = !xs.isEmpty) ∨ ∃ bL, H p = some (.dK bL) ∧ k = !bL.isEmpty := e
    rcases e' with ⟨xs, hx, e'⟩ | ⟨xs, hx, e'⟩ | ⟨bL, hx, e'⟩
    · subst e'
      obtain ⟨its, r, pl, hz⟩ := I.list hx
      have hlen := r.length
      exact wpAny_truthy_list pl.isList (by simp only [List.size_toArray]; omega) ⟨H, I.tok _, by rw [lP r]; exact q⟩
    · subst e'
      obtain ⟨its, r, pl, hz⟩ := I.tuple hx
      have hlen := r.length
      exact truthy_tuple pl (by simp only [List.size_toArray]; omega) ⟨H, I.tok _, by rw [lP r]; exact q⟩
    · subst e'
      obtain ⟨hz, hS, vs, r, m⟩ : bL.length ≤ sizeLine ∧ (p == sysModules) = false ∧ ∃ vs, KV bL vs ∧ s.heap.DictOf (mX X.prog X.w) p vs := I.hok p _ hx
      have hlen : bL.length = vs.length := Paired.length r
      exact wpAny_truthy_dict hS m (by omega) ⟨H, I.tok _, by rw [tD r]; exact q⟩
  | _ => exact (show False from e).elim
theorem vals1 {x : V} {us : List Value} (r : Vals [x] us) : ∃ u, us = [u] ∧ RelV x u := by
  cases r with
  | cons r1 r2 => cases r2; exact ⟨_, rfl, r1⟩
theorem vals2 {x y : V} {us : List Value} (r : Vals [x, y] us) : ∃ u w', us = [u, w'] ∧ RelV x u ∧ RelV y w' := by
  cases r with
  | cons r1 r2 =>
    cases r2 with
    | cons r3 r4 => cases r4; exact ⟨_, _, rfl, r1, r3⟩
theorem xr : cL X (.builtin "abs") (fun xs H Q => ∃ i, xs = [.int i] ∧ Q (.int (if i < 0 then -i else i)) H) := by
  intro pins s σ H xs us Q I r h
  obtain ⟨i, rfl, q⟩ := h
  obtain ⟨u, rfl, t, rfl⟩ := vals1 r
  exact call_abs_int fun u tk => ⟨.int (if i < 0 then -i else i), H, I.tok _, ⟨_, rfl⟩, q⟩
theorem u9 (hc : X.calm = true) : cL X (.builtin "max") (fun xs H Q => ∃ i j, xs = [.int i, .int j] ∧ Q (.int (if j > i then j else i)) H) := by
  intro pins s σ H xs us Q I r h
  obtain ⟨i, j, rfl, q⟩ := h
  obtain ⟨u, w', rfl, ⟨t, rfl⟩, ⟨t', rfl⟩⟩ := vals2 r
  refine max_two_ints (I.ok.hd hc) fun h' tk k => ⟨_, H, I.kept k, ?_, q⟩
  by_cases hj : j > i
  · rw [if_pos hj, if_pos hj]; exact ⟨_, rfl⟩
  · rw [if_neg hj, if_neg hj]; exact ⟨_, rfl⟩
theorem va (hc : X.calm = true) : cL X (.builtin "min") (fun xs H Q => ∃ i j, xs = [.int i, .int j] ∧ Q (.int (if j < i then j else i)) H) := by
  intro pins s σ H xs us Q I r h
  obtain ⟨i, j, rfl, q⟩ := h
  obtain ⟨u, w', rfl, ⟨t, rfl⟩, ⟨t', rfl⟩⟩ := vals2 r
  refine min_two_ints (I.ok.hd hc) fun h' tk k => ⟨_, H, I.kept k, ?_, q⟩
  by_cases hj : j < i
  · rw [if_pos hj, if_pos hj]; exact ⟨_, rfl⟩
  · rw [if_neg hj, if_neg hj]; exact ⟨_, rfl⟩
noncomputable def CB (K : PySem.W.Frag) (x : V) (H : Hp) (n : Nat) : Prop :=
  match x with
  | .str y => y.length ≤ sizeLine ∧ n = y.length
  | .gL y => y.size ≤ sizeLine ∧ n = y.size
  | .ref p => (∃ xs, bQ K H p xs ∧ n = xs.length) ∨ ∃ xs, bW K H p xs ∧ n = xs.length
  | _ => False
theorem xt : cL X (.builtin "len") (fun xs H Q => ∃ x n, xs = [x] ∧ CB X.K x H n ∧ Q (.int n) H) := by
  intro pins s σ H xs us Q I r h
  obtain ⟨x, n, rfl, e, q⟩ := h
  obtain ⟨u, rfl, rx⟩ := vals1 r
  have hl := iO
  have hs : sizeLine = 16777216 := sizeLine_eq
  cases x with
  | str y =>
    obtain ⟨t, rfl⟩ := rx
    obtain ⟨hy, e'⟩ : y.length ≤ sizeLine ∧ n = y.length := e
    subst e'
    exact len_str (by omega) ⟨.int _, H, I.tok _, ⟨_, rfl⟩, q⟩
  | gL y =>
    obtain ⟨t, rfl⟩ := rx
    obtain ⟨hy, e'⟩ : y.size ≤ sizeLine ∧ n = y.size := e
    subst e'
    exact PySem.W.len_bytes (by omega) ⟨.int _, H, I.tok _, ⟨_, rfl⟩, q⟩
  | ref p =>
    cases rx
    have e' : (∃ xs, bQ X.K H p xs ∧ n = xs.length) ∨ ∃ xs, bW X.K H p xs ∧ n = xs.length := e
    rcases e' with ⟨xs, hx, e'⟩ | ⟨xs, hx, e'⟩
    · subst e'
      obtain ⟨its, r', pl, hz⟩ := I.list hx
      have hlen := r'.length
      exact Calls.call_len_list pl.isList (by simp only [List.size_toArray]; omega) ⟨.int xs.length, H, I.tok _, ⟨_, by simp only [List.size_toArray]; rw [hlen]⟩, q⟩
    · subst e'
      obtain ⟨its, r', pl, hz⟩ := I.tuple hx
      have hlen := r'.length
      exact len_tuple pl (by simp only [List.size_toArray]; omega) ⟨.int xs.length, H, I.tok _, ⟨_, by simp only [List.size_toArray]; rw [hlen]⟩, q⟩
  | _ => exact (show False from e).elim
end
structure xu (h : Heap) (x dx C : Addr) (mA : Str → Option Value) : Prop where
  obj : h.get? x = some (PySem.W.instObj C dx)
  ns : h.Ns1 dx mA
  ne : dx ≠ x
theorem vb {h : Heap} {dx : Addr} {mA : Str → Option Value} (n : h.Ns1 dx mA) : ∃ od, h.get? dx = some od ∧ ∀ name, PySem.W.lookIn name od = some (mA name) := by
  obtain ⟨o, es, ep, ho, hd, hk, _, hm⟩ := n
  refine ⟨o, ho, fun name => ?_⟩
  have e := hm name
  unfold nsFind findBy at e
  rw [← Array.find?_toList] at e
  unfold PySem.W.lookIn
  rw [hd]
  dsimp only
  split
  · rename_i y q
    rw [q] at e
    exact congrArg some e
  · rename_i q
    rw [q] at e
    have a : es.toList.any (·.refKey) = false := by
      rw [List.any_eq_false]
      intro y hy
      obtain ⟨z, t, tE⟩ := hk y (Array.mem_toList_iff.mp hy)
      simp [DictEntry.refKey, tE]
    have a' : ¬ es.toList.any (·.refKey) = true := by rw [a]; exact Bool.false_ne_true
    rw [if_neg a']
    exact congrArg some e
theorem xu.look {h : Heap} {x dx C : Addr} {mA : Str → Option Value} (I : xu h x dx C mA) : ∃ od, PySem.W.InstAt h x (PySem.W.instObj C dx) C (some od) ∧ ∀ name, PySem.W.lookIn name od = some (mA name) :=
  let ⟨od, ho, hl⟩ := vb I.ns
  ⟨od, ⟨I.obj, rfl, rfl, ho⟩, hl⟩
section
variable {P : Program} {w : World} {H H' : Hp} {h h' : Heap} {a C dx : Addr} {fs JK : List (Str × V)}
theorem Ai (hok : da P w H h) (e : H a = some (.ins C dx fs)) : ∃ mA, xu h a dx C mA ∧ (∀ f, w6 (fs.lookup f) (mA f)) ∧ PySem.Within mA (fs.map (·.1)) ∧ fs.length ≤ 1000 ∧ H dx = some (.own a) := by
  obtain ⟨d, z, ne, ob, mA, n, r, q⟩ := (show bt P w H h a (.ins C dx fs) from hok a _ e)
  exact ⟨mA, ⟨ob, n, ne⟩, r, q, z, d⟩
end
structure CC (K : PySem.W.Frag) (C : Addr) : Prop where
  pg : PySem.W.plainGet K C Str.empty = true
  hd : PySem.W.hasDictIn K C = true
  po : PySem.W.plainOver K C = true
  sa : PySem.W.findIn K (.ref C) "__setattr__" = some (some (.builtin "object.__setattr__"))
theorem CC.get {K : PySem.W.Frag} {C : Addr} (c : CC K C) (f : Str) : PySem.W.plainGet K C f = true := c.pg
section
variable {X : Cx} {pins : List (Addr × Obj)} {σ : St} {H : Hp} {s : Shared} {A : Around} {E : Value → Shared → Prop} {Q : Value → Shared → Prop} {c : Value} {b : Bool}
inductive e7 (K : PySem.W.Frag) (H : Hp) : V → Value → Prop where
  | aC : e7 K H .aC (.type "NoneType")
  | bl (x : Bool) : e7 K H (.bl x) (.type "bool")
  | int (i : Int) : e7 K H (.int i) (.type "int")
  | str (x : Str) : e7 K H (.str x) (.type "str")
  | so (x : UInt64) : e7 K H (.so x) (.type "float")
  | lst {a : Addr} {xs : List V} (e : H a = some (.lst xs)) : e7 K H (.ref a) (.type "list")
  | eD {a : Addr} {o : Obj} {xs : List V} (e : H a = some (.eD o (.lst xs))) : e7 K H (.ref a) (.type "list")
  | tup {a : Addr} {xs : List V} (e : H a = some (.tup xs)) : e7 K H (.ref a) (.type "tuple")
  | dK {a : Addr} {bL : List (Key × V)} (e : H a = some (.dK bL)) : e7 K H (.ref a) (.type "dict")
  | dT {a : Addr} {bL : List (List Key × V)} (e : H a = some (.dT bL)) : e7 K H (.ref a) (.type "dict")
  | ins {a C dx : Addr} {fs : List (Str × V)} (e : H a = some (.ins C dx fs)) (cl : CC K C) (ha : PySem.W.findIn K (.ref C) "__class__" = some (some (.builtin "object.__class__")))
      (hn : PySem.W.specialIn K (.builtin "object.__class__") "__get__" = some (some (.builtin "getset_descriptor.__get__"))) (GZ : PySem.W.takesIn K (.builtin "object.__class__") = some true)
      (hm : PySem.W.mroIn K C (.type "object") = some true) : e7 K H (.ref a) (.ref C)
theorem vc {x : V} {u t : Value} (I : Inv X pins σ H s) (rx : RelV x u) (ty : e7 X.K H x t) (e : PySem.W.kitOne X.K t c = some b) (h : ∀ tk, Q (.bool b) { s with toks := tk }) :
    wpAny (model X.prog X.w) A (call (.builtin "isinstance") [u, c]) Q E s := by
  cases ty with
  | aC => cases (show u = Value.none from rx); exact PySem.W.kia_one PySem.W.kitx_none I.eF True.intro e (fun z => nomatch z) h
  | bl y => cases (show u = Value.bool y from rx); exact PySem.W.kia_one PySem.W.kitx_bool I.eF True.intro e (fun z => nomatch z) h
  | int i => obtain ⟨t, q⟩ := (show ∃ t, u = Value.int i t from rx); cases q; exact PySem.W.kia_one PySem.W.kitx_int I.eF True.intro e (fun z => nomatch z) h
  | str y => obtain ⟨t, q⟩ := (show ∃ t, u = Value.str y t from rx); cases q; exact PySem.W.kia_one PySem.W.kitx_str I.eF True.intro e (fun z => nomatch z) h
  | so y => obtain ⟨t, q⟩ := (show ∃ t, u = Value.float y t from rx); cases q; exact PySem.W.kia_one PySem.W.kitx_float I.eF True.intro e (fun z => nomatch z) h
  | @lst a xs ea =>
    cases (show u = Value.ref a from rx)
    obtain ⟨_, _, n, _, h1⟩ := (show bt X.prog X.w H s.heap a (.lst xs) from I.hok a _ ea)
    exact PySem.W.kia_one PySem.W.kitx_list I.eF ⟨_, h1, rfl⟩ e (fun z => nomatch z) h
  | @eD a ob xs ea =>
    cases (show u = Value.ref a from rx)
    obtain ⟨_, _, _, n, _, h1⟩ := (show bt X.prog X.w H s.heap a (.eD ob (.lst xs)) from I.hok a _ ea)
    exact PySem.W.kia_one PySem.W.kitx_list I.eF ⟨_, h1, rfl⟩ e (fun z => nomatch z) h
  | @tup a xs ea =>
    cases (show u = Value.ref a from rx)
    obtain ⟨_, _, _, p⟩ := (show bt X.prog X.w H s.heap a (.tup xs) from I.hok a _ ea)
    obtain ⟨o, h1, h2, _⟩ := p
    exact PySem.W.kia_one PySem.W.kitx_tuple I.eF ⟨o, h1, h2⟩ e (fun z => nomatch z) h
  | @dK a bL ea =>
    cases (show u = Value.ref a from rx)
    obtain ⟨_, _, vs, _, p⟩ := (show bt X.prog X.w H s.heap a (.dK bL) from I.hok a _ ea)
    obtain ⟨o, es, ep, h1, h2, _⟩ := p
    exact PySem.W.kia_one PySem.W.kitx_dict I.eF ⟨o, h1, h2.1⟩ e (fun z => nomatch z) h
  | @dT a bL ea =>
    cases (show u = Value.ref a from rx)
    obtain ⟨_, _, xs, _, o, es, ep, h1, h2, _⟩ := (show bt X.prog X.w H s.heap a (.dT bL) from I.hok a _ ea)
    exact PySem.W.kia_one PySem.W.kitx_dict I.eF ⟨o, h1, h2.1⟩ e (fun z => nomatch z) h
  | @ins a C dx fs ea cl ha hn GZ hm =>
    cases (show u = Value.ref a from rx)
    obtain ⟨mA, O, _⟩ := Ai I.hok ea
    obtain ⟨od, J, _⟩ := O.look
    exact PySem.W.kia_one (PySem.W.kitx_own (cl.get _) cl.hd ha hn GZ hm) I.eF J e (fun z => nomatch z) h
end
structure b7 (k : Nat) (A : Around) : Prop where
  hd : A.handled = none
  dp : A.depth + 3 * k + 5 < recursionLimit
  un : A.units + 16 * k + 200 < cLine
theorem b7.mono {j k : Nat} {A : Around} (r : b7 k A) (h : j ≤ k) : b7 j A := ⟨r.hd, by have := r.dp; omega, by have := r.un; omega⟩
theorem b7.deeper {k : Nat} {A : Around} (r : b7 (k + 1) A) (env : Env) : b7 k (A.deeper env) :=
  ⟨r.hd, by have := r.dp; show A.depth + 1 + 3 * k + 5 < _; omega, by have := r.un; show A.units + 3 + 16 * k + 200 < _; omega⟩
theorem b7.depth {k : Nat} {A : Around} (r : b7 k A) : A.depth < recursionLimit := by have := r.dp; omega
noncomputable def Iq : TA := fun _ H Q => Q [] H
noncomputable def FN (ta : TE) (tr : TA) : TA := fun σ H Q => ta σ H fun x H1 => tr σ H1 fun xs H2 => Q (x :: xs) H2
section
variable {X : Cx} {e : Expr} {es : List Expr} {te : TE} {t : TA} {pos : Pos}
theorem CD : PA X [] Iq := ⟨fun _ _ _ _ H Q I h => Calls.spliced_nil ⟨[], H, I, .nil, h⟩⟩
theorem Aj (ha : PE X e te) (hr : PA X es t) (hs : starEach (e :: es) X.env = (false, eval e X.env) :: starEach es X.env := by rfl) : PA X (e :: es) (FN te t) := by
  refine ⟨?_⟩
  intro pos pins s σ H Q I h
  rw [hs]
  show wpAny _ _ (spliced ((false, eval e X.env) :: backTo pos (starEach es X.env))) _ _ s
  refine Calls.spliced_cons (thn (ha pins s σ H _ I h) fun u s1 ⟨x, H1, I1, r1, q1⟩ => ?_)
  exact thn (hr pos pins s1 σ H1 _ I1 q1) fun us s2 ⟨xs, H2, I2, r2, q2⟩ => ⟨x :: xs, H2, I2, .cons r1 r2, q2⟩
noncomputable def Ir (t : TA) : TE := fun σ H Q => t σ H fun xs H1 => xs.length ≤ sizeLine ∧ ∀ p, H1 p = none → Q (.ref p) (upd H1 p (.tup xs))
noncomputable def Iu (t : TA) : TE := fun σ H Q => t σ H fun xs H1 => xs.length ≤ sizeLine ∧ ∀ p, H1 p = none → Q (.ref p) (upd H1 p (.lst xs))
theorem CF {x1} (h : PA X es t) : PE X (.Tuple es x1 pos) (Ir t) := by
  refine ⟨?_⟩
  intro pins s σ H Q I hq
  refine wpAny_Tuple_spliced (thn (h pos pins s σ H _ I hq) fun us s1 ⟨xs, H1, I1, r, z, q⟩ => ⟨by rw [← r.length]; exact z, ?_⟩)
  have hf : H1 s1.heap.objs.size = none := I1.hok.fresh (Nat.le_refl _)
  refine ⟨.ref s1.heap.objs.size, upd H1 s1.heap.objs.size (.tup xs), I1.laid (t' := s1.toks) (fun b u e => Heap.get?_push_of_some _ e) (Nat.le_refl _) ?_, rfl, q _ hf⟩
  exact ⟨z, us, r, ⟨_, Heap.get?_push_size _ rfl, rfl, _, rfl, rfl⟩⟩
theorem vd (h : PA X es t) : PE X (.List es pos) (Iu t) := by
  refine ⟨?_⟩
  intro pins s σ H Q I hq
  refine wpAny_List_spliced (thn (h pos pins s σ H _ I hq) fun us s1 ⟨xs, H1, I1, r, z, q⟩ => ⟨by rw [← r.length]; exact z, ?_⟩)
  have hf : H1 s1.heap.objs.size = none := I1.hok.fresh (Nat.le_refl _)
  refine ⟨.ref s1.heap.objs.size, upd H1 s1.heap.objs.size (.lst xs), I1.laid (t' := s1.toks) (fun b u e => Heap.get?_push_of_some _ e) (Nat.le_refl _) ?_, rfl, q _ hf⟩
  exact ⟨z, us, 0, r, Heap.get?_push_size _ rfl⟩
end
noncomputable abbrev Sp := List V → Hp → VK → XK → Prop
noncomputable abbrev fk := List Env → Hp → Shared → XK → Value → Shared → Prop
structure tF (P : Program) (w : World) (K : PySem.W.Frag) (mg : Str → Option Value) (base : Heap) (A : Around) (outer : List Env) (s : Shared) (H : Hp) : Prop where
  frames : A.frames = some outer
  mod : Mod K mg base
  bs : ∀ b o, base.get? b = some o → s.heap.get? b = some o ∧ H b = none
  bsz : base.objs.size ≤ s.heap.objs.size
  funs : s.heap.FunFrames base outer
  frf : ∀ b ∈ eE outer, H b = none
  hok : da P w H s.heap
  bare : AllBare s.gens
noncomputable def CE (outer : List Env) (P : Program) (w : World) (H : Hp) (s : Shared) (Q : VK) (u : Value) (s' : Shared) : Prop :=
  ∃ v H', s'.os = s.os ∧ Gn s.gens.size s'.gens ∧ Un (eE outer) [] H H' s.heap s'.heap ∧ da P w H' s'.heap ∧ RelV v u ∧ Q v H'
noncomputable def CR (CX : fk) (outer : List Env) (P : Program) (w : World) (H : Hp) (s : Shared) (Q : VK) (E : XK) (r : Result) (s' : Shared) : Prop :=
  match r with
  | .ok (.ret u) => CE outer P w H s Q u s'
  | .ok _ => False
  | .error e => CX outer H s E e s'
structure FnOk (P : Program) (w : World) (K : PySem.W.Frag) (mg : Str → Option Value) (base : Heap) (CX : fk) (k : Nat) (f : Addr) (fd : FuncData) (ps : List Str) (sp : Sp) : Prop where
  len : ∀ vs H Q E, sp vs H Q E → vs.length = ps.length
  run : ∀ (A : Around) (outer : List Env) (s : Shared) (H : Hp) (args : Args) (us : List Value) (vs : List V) (Q : VK) (E : XK), b7 k A → tF P w K mg base A outer s H → BindsTo s fd args (ps.zip us) → Vals vs us → sp vs H Q E →
    codeAny (model P w) A (.call (.ref f) args) (CR CX outer P w H s Q E) s
theorem FnOk.mono {P : Program} {w : World} {K : PySem.W.Frag} {mg : Str → Option Value} {base : Heap} {CX : fk} {j k : Nat} {f : Addr} {fd : FuncData} {ps : List Str} {sp : Sp} (F : FnOk P w K mg base CX j f fd ps sp) (h : j ≤ k) :
    FnOk P w K mg base CX k f fd ps sp := ⟨F.len, fun A outer s H args us vs Q E hr => F.run A outer s H args us vs Q E (hr.mono h)⟩
theorem FnOk.imp {P : Program} {w : World} {K : PySem.W.Frag} {mg : Str → Option Value} {base : Heap} {CX : fk} {k : Nat} {f : Addr} {fd : FuncData} {ps : List Str} {sp G0 : Sp} (F : FnOk P w K mg base CX k f fd ps sp)
    (h : ∀ vs H Q E, G0 vs H Q E → sp vs H Q E) : FnOk P w K mg base CX k f fd ps G0 :=
  ⟨fun vs H Q E q => F.len vs H Q E (h _ _ _ _ q), fun A outer s H args us vs Q E hr he hb hv hs => F.run A outer s H args us vs Q E hr he hb hv (h _ _ _ _ hs)⟩
section
variable {X : Cx} {pins : List (Addr × Obj)} {σ : St} {H : Hp} {s s' : Shared}
theorem Inv.Iv (I : Inv X pins σ H s) : tF X.prog X.w X.K X.mg X.base X.A X.stack s H :=
  ⟨I.ok.frames, I.ok.mod, I.bs, Nat.le_trans I.ok.bsz I.sz, I.stack, I.mY, I.hok, I.bare.1⟩
theorem Inv.after {Q : VK} {u : Value} (I : Inv X pins σ H s) (h : CE X.stack X.prog X.w H s Q u s') : EP X pins σ Q u s' := by
  obtain ⟨v, H', os, bare, un, hok, r, q⟩ := h
  obtain ⟨hh, g, d, t, zg⟩ := s'
  obtain rfl : zg = s.os := os
  exact ⟨v, H', I.call (h' := hh) (g' := g) (d' := d) (t' := t) (ch := []) un hok bare (fun b z => absurd z (by simp)), r, q⟩
end
noncomputable def zh (sp : Sp) (nY : List V) (E : XK) (t : TA) : TE := fun σ H Q => t σ H fun vs H1 => sp (vs ++ nY) H1 Q E
noncomputable def Binds (K : PySem.W.Frag) (fd : FuncData) (ps : List Str) (ds : List Value) : Prop :=
  ∀ (s : Shared) (us : List Value), K.In s.heap → (us ++ ds).length = ps.length → BindsTo s fd ⟨us, []⟩ (ps.zip (us ++ ds))
theorem Binds.all {K : PySem.W.Frag} {fd : FuncData} {ps : List Str} (h : ∀ us : List Value, us.length = ps.length → bindArgs fd ⟨us, []⟩ = pure (ps.zip us)) : Binds K fd ps [] := fun s us _ hl => by
  rw [List.append_nil] at hl ⊢
  exact .of_eq (h us hl)
noncomputable def Passes (CX : fk) (X : Cx) (E : XK) : Prop := ∀ (pins : List (Addr × Obj)) (σ : St) (H : Hp) (s : Shared) (e : Value) (s' : Shared), Inv X pins σ H s → CX X.stack H s E e s' → X.xe e s'
section
variable {X : Cx} {CX : fk} {k : Nat} {f C : Addr} {fd : FuncData} {ps : List Str} {sp : Sp} {nY : List V} {ds : List Value} {E : XK} {x m : Str} {p pos apos : Pos} {e o : Expr} {es : List Expr} {ta : TE} {t : TA}
theorem ve {pins : List (Addr × Obj)} {σ : St} {H : Hp} {s : Shared} {Q : VK} {us : List Value} {vs : List V} (F : FnOk X.prog X.w X.K X.mg X.base CX k f fd ps sp) (hr : b7 k X.A) (hb : Binds X.K fd ps ds) (hd : Vals nY ds) (hx : Passes CX X E)
    (I : Inv X pins σ H s) (r : Vals vs us) (h : sp (vs ++ nY) H Q E) : wpAny (model X.prog X.w) X.A (call (.ref f) us) (EP X pins σ Q) X.xe s := by
  have r2 : Vals (vs ++ nY) (us ++ ds) := r.append hd
  have hl : (us ++ ds).length = ps.length := by rw [← r2.length]; exact F.len _ _ _ _ h
  refine wpAny_call (codeAny_mono (F.run X.A X.stack s H ⟨us, []⟩ (us ++ ds) (vs ++ nY) Q E hr I.Iv (hb s us I.eF hl) r2 h) fun r s' hq => ?_)
  cases r with
  | error e => exact hx pins σ H s e s' I hq
  | ok fl =>
    cases fl with
    | ret u => exact I.after hq
    | next => exact False.elim hq
    | brk => exact False.elim hq
    | cont => exact False.elim hq
theorem Ak (F : FnOk X.prog X.w X.K X.mg X.base CX k f fd ps sp) (hr : b7 k X.A) (hg : Gl X x) (hm : X.mg x = some (.ref f)) (hk : PySem.W.keepIn X.K (.ref f) = true) (hb : Binds X.K fd ps ds) (hd : Vals nY ds) (hx : Passes CX X E)
    (ha : PA X (e :: es) t) (fy : (x == ("__debug__" : Str)) = false := by decide) (he : starEach (e :: es) X.env = (false, eval e X.env) :: starEach es X.env := by rfl) (fm : (backTo pos (starEach es X.env)).any (·.1) = false := by rfl) :
    PE X (.Call (.Name x p) (e :: es) [] pos) (zh sp nY E t) := by
  refine ⟨?_⟩
  intro pins s σ H Q I h
  refine wpAny_Call_Name_kw (ki I hg hm ?_ fy)
  refine PySem.W.callWith_K (h₀ := X.base) I.ok.mod.kin hk (thn (ha pos pins s σ H _ I h) fun us s1 ⟨vs, H1, I1, r, q⟩ => ⟨I1.eF, ?_⟩) he fm
  exact ve F hr hb hd hx I1 r q
end
structure aG (N P : List Str) (sc : Scope) : Prop where
  kind : sc.kind = .function
  co : sc.isCoroutine = false
  gen : sc.isGenerator = false
  nd : N.Nodup
  pre : N.take P.length = P
  par : ∀ x ∈ P, sc.names.lookup x = some .local ∨ sc.names.lookup x = some .cell
  nofree : ∀ y ∈ sc.names, y.2 ≠ .free
theorem nZ {kindOf : Str → Option NameKind} {x : Str} : ∀ {binds : List (Str × Value)} {m : Str → Option Value}, (∀ v, (x, v) ∉ binds) → bindL kindOf binds m x = m x
  | [], _, _ => rfl
  | (n, v) :: r, m, h => by
    unfold bindL
    rw [nZ fun w hw => h w (List.mem_cons_of_mem _ hw)]
    split
    · have : x ≠ n := by rintro rfl; exact h v List.mem_cons_self
      simp [this]
    · rfl
theorem n5 {kindOf : Str → Option NameKind} {x : Str} : ∀ {binds : List (Str × Value)} {m : Str → Option Value}, (∀ v, (x, v) ∉ binds) → bindC kindOf binds m x = m x
  | [], _, _ => rfl
  | (n, v) :: r, m, h => by
    unfold bindC
    rw [n5 fun w hw => h w (List.mem_cons_of_mem _ hw)]
    split
    · rfl
    · have : x ≠ n := by rintro rfl; exact h v List.mem_cons_self
      simp [this]
theorem n6 {kindOf : Str → Option NameKind} {x : Str} {v : Value} : ∀ {P : List Str} {vs : List Value} {i : Nat} {m : Str → Option Value}, P.Nodup → P[i]? = some x → vs[i]? = some v → kindOf x = some .local →
    bindL kindOf (P.zip vs) m x = some v
  | [], _, _, _, _, h, _, _ => by simp at h
  | _ :: _, [], _, _, _, _, h, _ => by simp at h
  | p :: P, w :: vs, 0, m, nd, h1, h2, hk => by
    simp at h1 h2; subst h1; subst h2
    show bindL kindOf ((p, w) :: P.zip vs) m p = _
    unfold bindL
    rw [nZ fun v hv => (List.nodup_cons.mp nd).1 (List.of_mem_zip hv).1, if_pos hk]
    simp
  | p :: P, w :: vs, i + 1, m, nd, h1, h2, hk => by
    show bindL kindOf ((p, w) :: P.zip vs) m x = _
    unfold bindL
    exact n6 (i := i) (List.nodup_cons.mp nd).2 (by simpa using h1) (by simpa using h2) hk
theorem n8 {kindOf : Str → Option NameKind} {x : Str} {v : Value} : ∀ {P : List Str} {vs : List Value} {i : Nat} {m : Str → Option Value}, P.Nodup → P[i]? = some x → vs[i]? = some v → kindOf x ≠ some .local →
    bindC kindOf (P.zip vs) m x = some v
  | [], _, _, _, _, h, _, _ => by simp at h
  | _ :: _, [], _, _, _, _, h, _ => by simp at h
  | p :: P, w :: vs, 0, m, nd, h1, h2, hk => by
    simp at h1 h2; subst h1; subst h2
    show bindC kindOf ((p, w) :: P.zip vs) m p = _
    unfold bindC
    rw [n5 fun v hv => (List.nodup_cons.mp nd).1 (List.of_mem_zip hv).1, if_neg hk]
    simp
  | p :: P, w :: vs, i + 1, m, nd, h1, h2, hk => by
    show bindC kindOf ((p, w) :: P.zip vs) m x = _
    unfold bindC
    exact n8 (i := i) (List.nodup_cons.mp nd).2 (by simpa using h1) (by simpa using h2) hk
noncomputable def start (N : List Str) (vs : List V) : St := vs.map some ++ List.replicate (N.length - vs.length) none
noncomputable def e8 (CX : fk) (P : Program) (w : World) (K : PySem.W.Frag) (mg : Str → Option Value) (base : Heap) (N : List Str) (qual : Str) (scope : Scope) (f : Addr) (cd : Value) (A : Around) (outer : List Env) (s : Shared) (H : Hp) (E : XK) : Cx where
  prog := P
  w := w
  K := K
  mg := mg
  base := base
  A := A.deeper (envOfC qual scope s.heap.objs.size f cd)
  N := N
  s₀ := s
  H₀ := H
  env := envOfC qual scope s.heap.objs.size f cd
  outer := outer
  stack := envOfC qual scope s.heap.objs.size f cd :: outer
  ex := []
  calm := true
  fn := fun _ => true
  pn := []
  xe := fun e s' => wpAny (model P w) (A.deeper (envOfC qual scope s.heap.objs.size f cd)) (leaving (envOfC qual scope s.heap.objs.size f cd) e) (fun _ cc => CX outer H s E e cc) (fun e' cc => CX outer H s E e' cc) s'
theorem pL {sc : Scope} {n : Nat} {x : Str} (h : sc.names.lookup x = some .cell) : ∃ c, (cellsFrom n sc.names []).lookup x = some c := by
  have q := PySem.W.cellsFrom_some sc.names n [] (.inl h)
  exact Option.isSome_iff_exists.mp q
theorem vf {CX : fk} {P : Program} {w : World} {K : PySem.W.Frag} {mg : Str → Option Value} {base : Heap} {N ps : List Str} {qual : Str} {scope : Scope} {f : Addr} {cd : Value} {A : Around} {outer : List Env} {s s1 : Shared} {H : Hp} {E : XK} {us : List Value} {vs : List V}
    (S : aG N ps scope) (hd : A.handled = none) (e0 : tF P w K mg base A outer s H) (hl : vs.length = ps.length) (r : Vals vs us)
    (x : InCallC s s.heap.objs.size (bindL (envOfC qual scope s.heap.objs.size f cd).kindOf (ps.zip us) fun _ => none) (cellsFrom (s.heap.objs.size + 1) scope.names []) (bindC (envOfC qual scope s.heap.objs.size f cd).kindOf (ps.zip us) fun _ => none) s1) :
    Inv (e8 CX P w K mg base N qual scope f cd A outer s H E) [] (start N vs) H s1 := by
  have fm : ps.length ≤ N.length := by have := congrArg List.length S.pre; rw [List.length_take] at this; omega
  obtain ⟨h1, tk, rfl, hk⟩ := x.done
  have CG : ∀ b : Addr, b ∉ (e8 CX P w K mg base N qual scope f cd A outer s H E).ex := fun b z => absurd (show b ∈ ([] : List Addr) from z) (by simp)
  refine ⟨⟨e0.mod, S.kind, rfl, rfl, Nat.le_refl _, fun y z c h1 h2 => ?_, fun y hy => ?_, fun y c _ h => ?_, fun _ => hd, Around.frames_deeper e0.frames, .inr ⟨rfl, rfl⟩, fun b z => absurd z (CG b), e0.bs, e0.bsz, fun b _ _ => CG b, fun b z => absurd z (CG b), e0.funs, e0.frf⟩,
    rfl, ⟨e0.bare, Nat.le_refl _⟩, Un.kept hk, ⟨_, x.toInCall.ns, fun i y v h1 h2 h3 => ?_⟩, fun y c h => ⟨_, x.cell y c h⟩, e0.hok.fresh (Nat.le_refl _), fun y c h => ?_, fun p hp => absurd (show p ∈ ([] : List (Addr × Obj)) from hp) (by simp), e0.hok.kept hk, ?_⟩
  · exact name_of_addr x.apart (PySem.mem_of_lookup h1) (PySem.mem_of_lookup h2)
  · have hy : scope.names.lookup y = some .cell ∨ scope.names.lookup y = some .free := hy
    rcases hy with hy | hy
    · exact pL hy
    · exact absurd rfl (S.nofree _ (PySem.mem_of_lookup hy))
  · exact Nat.le_of_lt (x.above y c (PySem.mem_of_lookup h))
  · have hi : i < vs.length := by
      unfold start at h2
      by_cases hi : i < vs.length
      · exact hi
      · rw [List.getElem?_append_right (by simpa using hi)] at h2
        rw [List.getElem?_replicate] at h2
        split at h2 <;> cases h2
    have ha : vs[i]? = some v := by
      unfold start at h2
      rw [List.getElem?_append_left (by simpa using hi), List.getElem?_map] at h2
      cases e : vs[i]? with
      | none => rw [e] at h2; cases h2
      | some a => rw [e] at h2; cases h2; rfl
    obtain ⟨u, hu, rv⟩ := r.get ha
    have hp : ps[i]? = some y := by
      rw [← S.pre, List.getElem?_take_of_lt (by omega)]; exact h1
    have G1 : ps.Nodup := by rw [← S.pre]; exact S.nd.sublist (List.take_sublist _ _)
    refine ⟨u, rv, ?_⟩
    rcases S.par y (List.mem_of_getElem? hp) with k | k
    · exact .inl ⟨k, n6 G1 hp hu k⟩
    · obtain ⟨c, e⟩ := pL (n := s.heap.objs.size + 1) k
      refine .inr ⟨.inl k, c, e, ?_⟩
      have q := x.cell y c e
      rw [n8 G1 hp hu (by show scope.names.lookup y ≠ _; rw [k]; decide)] at q
      exact q
  · exact e0.hok.fresh (Nat.le_of_lt (x.above y c (PySem.mem_of_lookup h)))
  · unfold start
    show _ = N.length
    rw [List.length_append, List.length_map, List.length_replicate]
    omega
theorem zj {CX : fk} {P : Program} {w : World} {K : PySem.W.Frag} {mg : Str → Option Value} {base : Heap} {k : Nat} {f : Addr} {name qual : Str} {params : Arguments} {body : List Stmt} {scope : Scope} {dV kV doc pm b8 ct oc : Value} {an od : Option Addr}
    {gv : Array (Option Value)} {N ps : List Str} {sp : Sp} (lk : K.lookup f = some ⟨oc, od, .func (PySem.W.fnOf name qual params body scope dV kV doc pm an b8 ct), gv⟩) (fx : PySem.W.codeIn K b8 qual = true) (S : aG N ps scope)
    (len : ∀ vs H Q E, sp vs H Q E → vs.length = ps.length)
    (lQ : ∀ (A : Around) (outer : List Env) (s : Shared) (H : Hp) (vs : List V) (Q : VK) (E : XK), b7 k (A.deeper (envOfC qual scope s.heap.objs.size f b8)) → sp vs H Q E →
      ∃ t, dO (e8 CX P w K mg base N qual scope f b8 A outer s H E) body t ∧ t { nx := fun _ H' => Q .aC H', rt := Q } (start N vs) H) :
    FnOk P w K mg base CX (k + 1) f (PySem.W.fnOf name qual params body scope dV kV doc pm an b8 ct) ps sp := by
  refine ⟨len, fun A outer s H args us vs Q E hr e0 hb r kM => ?_⟩
  have hl := len _ _ _ _ kM
  have KX : K.In s.heap := e0.mod.kin.keeps fun b o e => (e0.bs b o e).1
  have lim : s.heap.NoLimit := e0.mod.nolimit.keeps fun b o e => (e0.bs b o e).1
  have pj : ∀ y ∈ ps.zip us, scope.names.lookup y.1 = some .local ∨ (scope.names.lookup y.1 = some .cell ∧ ((cellsFrom (s.heap.objs.size + 1) scope.names []).lookup y.1).isSome = true) := fun ⟨n, v⟩ hy => by
    rcases S.par n (List.of_mem_zip hy).1 with q | q
    · exact .inl q
    · exact .inr ⟨q, PySem.W.cellsFrom_some _ _ _ (.inl q)⟩
  refine codeAny_call_function hr.depth (KX _ _ lk) rfl S.co S.gen rfl (PySem.W.codeRec_of KX fx) (hb _ _ _ _ ?_)
  refine wpAny_newFunctionEnv_cells S.kind pj fun env he s1 x => ?_
  subst he
  refine ⟨lim.keeps x.toInCall.keep, codeAny_func ?_⟩
  obtain ⟨t, ht, hq⟩ := lQ A outer s H vs Q E (hr.deeper _) kM
  have I : Inv (e8 CX P w K mg base N qual scope f b8 A outer s H E) [] (start N vs) H s1 := vf S hr.hd e0 hl r x
  refine wpAny_mono (ht [] s1 (start N vs) H _ I hq) (fun fl s' hs => ?_) fun e s' hs => hs
  have fin : ∀ {aJ : St} {H' : Hp} {v : V} {u : Value}, Inv (e8 CX P w K mg base N qual scope f b8 A outer s H E) [] aJ H' s' → RelV v u → Q v H' → CE outer P w H s Q u s' :=
    fun {aJ H' v u} J rv q => ⟨v, H', J.os, J.bare, J.base, J.hok, rv, q⟩
  cases fl with
  | ret u =>
    obtain ⟨v, aJ, H', J, rv, q⟩ := hs
    exact fin J rv q
  | next =>
    obtain ⟨aJ, H', J, q⟩ := hs
    exact fin (v := V.aC) (u := Value.none) J rfl q
  | brk =>
    obtain ⟨_, _, _, q⟩ := hs
    exact False.elim q
  | cont =>
    obtain ⟨_, _, _, q⟩ := hs
    exact False.elim q
section
variable {X : Cx} {x : Str} {p pos : Pos} {e : Expr} {es : List Expr} {t : TA} {id T : String} {r : List V → Hp → VK → Prop}
noncomputable def CH (r : List V → Hp → VK → Prop) (t : TA) : TE := fun σ H Q => t σ H fun vs H1 => r vs H1 Q
theorem xx (hc : cL X (.builtin id) r) (hg : Gl X x) (hm : X.mg x = none) (hv : bootBuiltins x = some (.builtin id)) (ha : PA X (e :: es) t) (hn : x ≠ "__name__" := by decide) (fy : (x == ("__debug__" : Str)) = false := by decide)
    (he : starEach (e :: es) X.env = (false, eval e X.env) :: starEach es X.env := by rfl) (fm : (backTo pos (starEach es X.env)).any (·.1) = false := by rfl) : PE X (.Call (.Name x p) (e :: es) [] pos) (CH r t) := by
  refine ⟨?_⟩
  intro pins s σ H Q I h
  refine wpAny_Call_Name_kw (gP I hg hm hv ?_ hn fy)
  exact PyProof.Rows.callWith_builtin1 (thn (ha pos pins s σ H _ I h) fun us s1 ⟨vs, H1, I1, r1, q1⟩ => hc pins s1 σ H1 vs us Q I1 r1 q1) he fm
theorem vg (hc : cL X (.type T) r) (hg : Gl X x) (hm : X.mg x = none) (hv : bootBuiltins x = some (.type T)) (ha : PA X (e :: es) t) (hn : x ≠ "__name__" := by decide) (fy : (x == ("__debug__" : Str)) = false := by decide)
    (he : starEach (e :: es) X.env = (false, eval e X.env) :: starEach es X.env := by rfl) (fm : (backTo pos (starEach es X.env)).any (·.1) = false := by rfl) : PE X (.Call (.Name x p) (e :: es) [] pos) (CH r t) := by
  refine ⟨?_⟩
  intro pins s σ H Q I h
  refine wpAny_Call_Name_kw (gP I hg hm hv ?_ hn fy)
  exact PyProof.Rows.callWith_type1 (thn (ha pos pins s σ H _ I h) fun us s1 ⟨vs, H1, I1, r1, q1⟩ => hc pins s1 σ H1 vs us Q I1 r1 q1) he fm
end
end L2
namespace HT
open PySem PyProof.Rows
section
variable {prog : Program} {w : World} {A : Around} {E : Value → Shared → Prop} {s : Shared}
theorem Al {t b : Addr} {vs ws : List Value} {Q : Value → Shared → Prop} (ht : IsTup s.heap t vs.toArray) (hb : IsTup s.heap b ws.toArray) (hv : vs ≠ [])
    (h1 : ws = [] → Q (.ref t) s) (h2 : ws ≠ [] → Q (.ref s.heap.objs.size) { s with heap := s.heap.push { cls := .type "tuple", data := .seq (vs ++ ws).toArray } })
    (gw : vs.length + ws.length ≤ sizeLine) : wpAny (model prog w) A (binaryOp .Add (.ref t) (.ref b)) Q E s := by
  obtain ⟨⟨cls, dd, data, sl⟩, ho, hc, n, hd⟩ := id ht
  obtain ⟨⟨Iw, sy, data2, oa⟩, pM, vh, n2, hd2⟩ := id hb
  simp only at hc hd vh hd2
  subst hc hd vh hd2
  have e : vs.toArray ++ ws.toArray = (vs ++ ws).toArray := by simp
  by_cases hw : ws = []
  · exact concat_meets ⟨_, ho, rfl⟩ ⟨_, pM, rfl⟩ noFill_tuple_add seq_tuple_add PySem.F.slot_tuple_add PySem.F.entry_tuple_add (PySem.F.args_tuple_add_2 _ _)
      (tuple_addW1 t b vs.toArray ws.toArray n n2 dd sy sl oa (by simpa using hv) (by simp [hw])) ⟨ho, pM, h1 hw⟩
  · refine concat_meets ⟨_, ho, rfl⟩ ⟨_, pM, rfl⟩ noFill_tuple_add seq_tuple_add PySem.F.slot_tuple_add PySem.F.entry_tuple_add (PySem.F.args_tuple_add_2 _ _)
      (tuple_addW2 t b vs.toArray ws.toArray n n2 dd sy sl oa (by simpa using hv) (by simpa using hw) (by rw [List.size_toArray, List.size_toArray]; exact gw)) ⟨ho, pM, ?_⟩
    rw [e]
    exact h2 hw
noncomputable def aR (n d : Nat) : Option Int → Nat
  | none => d
  | some v => if v < 0 then (v + (n : Int)).toNat else min v.toNat n
theorem CI (n d : Nat) (hd : d ≤ n) (o : Option Int) : aR n d o ≤ n := by
  cases o with
  | none => exact hd
  | some v =>
    show (if v < 0 then (v + (n : Int)).toNat else min v.toNat n) ≤ n
    by_cases hv : v < 0
    · rw [if_pos hv]; omega
    · rw [if_neg hv]; exact Nat.min_le_right _ _
theorem sA (v : Int) (n d : Nat) : (if v < 0 then max (v + (n : Int)) 0 else min v (n : Int)) = ((aR n d (some v) : Nat) : Int) := by
  show (if v < 0 then max (v + (n : Int)) 0 else min v (n : Int)) = (((if v < 0 then (v + (n : Int)).toNat else min v.toNat n) : Nat) : Int)
  by_cases hv : v < 0
  · simp only [if_pos hv]; omega
  · simp only [if_neg hv]; omega
theorem tG (lo hi : Option Int) (n : Nat) : Builtin.Slice.sliceAdjust lo hi 1 (n : Int) = (((aR n 0 lo : Nat) : Int), ((aR n n hi : Nat) : Int)) := by
  have h1 : ¬ ((1 : Int) < 0) := by omega
  unfold Builtin.Slice.sliceAdjust
  simp only [h1, if_false]
  refine Prod.ext ?_ ?_
  · cases lo with
    | none => rfl
    | some v => exact sA v n 0
  · cases hi with
    | none => rfl
    | some v => exact sA v n n
theorem tH (i j : Nat) : Builtin.Slice.slicePlaces (i : Int) (j : Int) 1 = j - i := by
  unfold Builtin.Slice.slicePlaces
  have h1 : (1 : Int) > 0 := by omega
  simp only [h1, if_true, Int.ediv_one]
  split <;> omega
theorem lR {v : Value} {o : Option Int} {Q : Option Int → Shared → Prop} (p : IsPart v o) (h : Q o s) : wpAny (model prog w) A (Builtin.Slice.slicePartIndex v) Q E s := by
  cases p with
  | none => exact slicePart_none h
  | int i t => exact slicePart_int h
theorem gR {sl : Addr} {vl vu : Value} {lo hi : Option Int} {n : Nat} {Q : Int × Int × Nat → Shared → Prop} (hs : s.heap.IsSliceOf sl vl vu .none) (pl : IsPart vl lo) (pu : IsPart vu hi)
    (h : Q (((aR n 0 lo : Nat) : Int), 1, aR n n hi - aR n 0 lo) s) : wpAny (model prog w) A (Builtin.Slice.sliceApplied (.ref sl) (pure (n : Int))) Q E s := by
  obtain ⟨os, dP, zk, ie⟩ := id hs
  unfold Builtin.Slice.sliceApplied Builtin.Slice.sliceFields
  refine wpAny_bind (wpAny_bind (wpAny_field dP ie (x := vl) rfl (wpAny_bind (wpAny_field dP ie (x := vu) rfl (wpAny_bind (wpAny_field dP ie (x := .none) rfl (wpAny_pure ?_)))))))
  refine wpAny_bind (slicePart_none ?_)
  show wpAny _ _ (if ((1 : Int) == 0) = true then _ else _) _ _ s
  rw [if_neg (by decide)]
  refine wpAny_bind (lR pl (wpAny_bind (lR pu (wpAny_bind (wpAny_pure ?_)))))
  show wpAny _ _ (match Builtin.Slice.sliceAdjust lo hi 1 (n : Int) with | (lo, hi) => pure (lo, (1 : Int), Builtin.Slice.slicePlaces lo hi 1)) _ _ s
  rw [tG lo hi n]
  show wpAny _ _ (pure (((aR n 0 lo : Nat) : Int), (1 : Int), Builtin.Slice.slicePlaces ((aR n 0 lo : Nat) : Int) ((aR n n hi : Nat) : Int) 1)) _ _ s
  rw [tH]
  exact wpAny_pure h
theorem xA (xs : Array Value) (i k : Nat) : ((List.range k).filterMap fun (m : Nat) => xs[((i : Int) + (m : Int) * 1).toNat]?).toArray = ((xs.toList.drop i).take k).toArray := by
  have e : (fun (m : Nat) => xs[((i : Int) + (m : Int) * 1).toNat]?) = fun m => xs[i + m]? := by
    funext m
    have : ((i : Int) + (m : Int) * 1).toNat = i + m := by omega
    rw [this]
  rw [e]
  have := pick_run xs i k
  rw [List.filterMap_map] at this
  have e2 : ((fun x => xs[x]?) ∘ fun x => i + x) = fun m => xs[i + m]? := rfl
  rw [e2] at this
  rw [this]
theorem kz {t sl : Addr} {items : Array Value} {vl vu : Value} {lo hi : Option Int} {Q : Value → Shared → Prop} (ht : IsTup s.heap t items) (hs : s.heap.IsSliceOf sl vl vu .none) (pl : IsPart vl lo) (pu : IsPart vu hi)
    (hw : ¬ (aR items.size 0 lo = 0 ∧ aR items.size items.size hi = items.size))
    (h : Q (.ref s.heap.objs.size) { s with heap := s.heap.push { cls := .type "tuple", data := .seq ((items.toList.drop (aR items.size 0 lo)).take (aR items.size items.size hi - aR items.size 0 lo)).toArray } })
    (gw : items.size ≤ sizeLine) : wpAny (model prog w) A (getItem (.ref t) (.ref sl)) Q E s := by
  have pq : sizeOk (.seq ((items.toList.drop (aR items.size 0 lo)).take (aR items.size items.size hi - aR items.size 0 lo)).toArray) := by
    show ((items.toList.drop (aR items.size 0 lo)).take (aR items.size items.size hi - aR items.size 0 lo)).toArray.size ≤ sizeLine
    rw [List.size_toArray, List.length_take, List.length_drop, Array.length_toList]
    omega
  have hj : aR items.size items.size hi ≤ items.size := CI _ _ (Nat.le_refl _) hi
  obtain ⟨os, dP, zk, ie⟩ := id hs
  have CJ : s.TypeIs (.ref sl) "slice" := ⟨os, dP, zk⟩
  unfold getItem
  try with_reducible refine wpAny_holding ?_
  first | refine wpAny_bind (wpAny_pure ?_) | skip
  refine wpAny_bind (wpAny_sequenceKey ht.typeIs (by decide) ?_)
  refine wpAny_bind (wpAny_callSpecial?_slot (name := Str.ofString "__getitem__") ht.typeIs PyProof.Rows.slot_tuple_getitem
    (wpAny_call_entry PyProof.Rows.slot_tuple_getitem ht.typeIs entry_tuple_getitem ?_ (args_tuple_getitem _ _)))
  show wpAny _ _ (Builtin.Tuple.tupleItemsOf (.ref t) >>= _) _ _ s
  refine wpAny_bind (tupleItemsOf_ ht ?_)
  refine wpAny_bind (wpAny_typeOf CJ ?_)
  rw [if_pos (by decide)]
  refine wpAny_bind (gR hs pl pu ?_)
  have JU : ¬ ((((aR items.size 0 lo : Nat) : Int) == 0 && (1 : Int) == 1 && (aR items.size items.size hi - aR items.size 0 lo) == items.size) = true) := by
    intro q
    rw [Bool.and_eq_true, Bool.and_eq_true] at q
    have q1 : ((aR items.size 0 lo : Nat) : Int) = 0 := eq_of_beq q.1.1
    have q2 : aR items.size items.size hi - aR items.size 0 lo = items.size := eq_of_beq q.2
    exact hw ⟨by omega, by omega⟩
  show wpAny _ _ (if (((aR items.size 0 lo : Nat) : Int) == 0 && (1 : Int) == 1 && (aR items.size items.size hi - aR items.size 0 lo) == items.size) = true then _ else _) _ _ s
  rw [if_neg JU, xA]
  first
    | exact wpAny_bind (m := Builtin.Tuple.tupleExact _) (wpAny_newObj_type (wpAny_pure ⟨_, rfl, wpAny_pure h⟩) pq)
    | exact wpAny_bind (m := Builtin.Tuple.tupleExact _) (wpAny_newObj_type (wpAny_bind (wpAny_pure (wpAny_pure ⟨_, rfl, wpAny_pure h⟩))) pq)
    | exact wpAny_bind (wpAny_bind (m := Builtin.Tuple.tupleExact _) (wpAny_newObj_type (wpAny_pure (wpAny_pure ⟨_, rfl, wpAny_pure h⟩)) pq))
    | exact wpAny_bind (wpAny_bind (m := Builtin.Tuple.tupleExact _) (wpAny_newObj_type (wpAny_pure ⟨_, rfl, wpAny_pure h⟩) pq))
end
end HT
namespace L2
open PySem PySem.Spec PyProof.Rows
noncomputable abbrev TO := St → Hp → (Option Int → Hp → Prop) → Prop
noncomputable def PO (X : Cx) (e : Option Expr) (t : TO) : Prop :=
  ∀ (pins : List (Addr × Obj)) (s : Shared) (σ : St) (H : Hp) (Q : Option Int → Hp → Prop), Inv X pins σ H s → t σ H Q →
    wpAny (model X.prog X.w) X.A (evalPart e X.env) (fun u s' => ∃ o H', Inv X pins σ H' s' ∧ IsPart u o ∧ Q o H') X.xe s
noncomputable def Am : TO := fun _ H Q => Q none H
noncomputable def FO (t : TE) : TO := fun σ H Q => t σ H fun x H1 => ∃ i, x = .int i ∧ Q (some i) H1
section
variable {X : Cx} {e : Expr} {te : TE} {lo hi : Option Expr} {tl th : TO} {pos p2 : Pos}
theorem An : PO X none Am := by
  intro pins s σ H Q I h
  rw [evalPart_none]
  exact wpAny_pure ⟨none, H, I, .none, h⟩
theorem Ao (h : PE X e te) : PO X (some e) (FO te) := by
  intro pins s σ H Q I hw
  rw [evalPart_some]
  refine thn (h pins s σ H _ I hw) fun u s1 ⟨x, H1, I1, r1, q1⟩ => ?_
  obtain ⟨i, rfl, q⟩ := q1
  obtain ⟨t, rfl⟩ := r1
  exact ⟨some i, H1, I1, .int i t, q⟩
noncomputable def vi (X : Cx) (r : V → Option Int → Option Int → Hp → VK → Prop) : Prop :=
  ∀ (pins : List (Addr × Obj)) (s : Shared) (σ : St) (H : Hp) (x : V) (v vl vu : Value) (lo hi : Option Int) (sl : Addr) (Q : VK), Inv X pins σ H s → RelV x v → s.heap.IsSliceOf sl vl vu .none → IsPart vl lo → IsPart vu hi → r x lo hi H Q →
    ∃ T id, typeLookup (.type T) "__getitem__" = pure (some (.builtin id)) ∧ s.TypeIs v T ∧ wpAny (model X.prog X.w) X.A (getItem v (.ref sl)) (EP X pins σ Q) X.xe s
noncomputable def JV (r : V → Option Int → Option Int → Hp → VK → Prop) (te : TE) (tl th : TO) : TE := fun σ H Q => te σ H fun x H1 => tl σ H1 fun l H2 => th σ H2 fun u H3 => r x l u H3 Q
theorem xB {r : V → Option Int → Option Int → Hp → VK → Prop} (hr : vi X r) (he : PE X e te) (hl : PO X lo tl) (hu : PO X hi th) : PE X (.Subscript e (.Slice lo hi none p2) pos) (JV r te tl th) := by
  refine ⟨?_⟩
  intro pins s σ H Q I h
  refine Subscript_ (thn (he pins s σ H _ I h) fun v s1 ⟨x, H1, I1, r1, q1⟩ => ?_)
  refine wpAny_Slice (thn (hl pins s1 σ H1 _ I1 q1) fun vl s2 ⟨l, H2, I2, pl, q2⟩ => thn (hu pins s2 σ H2 _ I2 q2) fun vu s3 ⟨u, H3, I3, pu, q3⟩ => ?_)
  rw [evalPart_none]
  refine wpAny_pure ?_
  have I4 : Inv X pins σ H3 { s3 with heap := s3.heap.push { cls := .type "slice", data := .fields #[vl, vu, .none] } } := I3.kept (t' := s3.toks) fun b ob q => Heap.get?_push_of_some _ q
  obtain ⟨T, id, hT, ht, hg⟩ := hr pins { s3 with heap := s3.heap.push { cls := .type "slice", data := .fields #[vl, vu, .none] } } σ H3 x v vl vu l u s3.heap.objs.size Q I4 r1 (Heap.IsSliceOf.new ..) pl pu q3
  show wpAny (model X.prog X.w) X.A (subscriptTail e (.Slice lo hi none p2) v (.ref s3.heap.objs.size)) (EP X pins σ Q) X.xe { s3 with heap := s3.heap.push { cls := .type "slice", data := .fields #[vl, vu, .none] } }
  exact tail_any (ops := [.ref s3.heap.objs.size, v]) ht hT hg (by with_unfolding_all rfl)
noncomputable def gp (xs : List V) (lo hi : Option Int) : List V := (xs.drop (HT.aR xs.length 0 lo)).take (HT.aR xs.length xs.length hi - HT.aR xs.length 0 lo)
theorem kN (xs : List V) (lo hi : Option Int) : (gp xs lo hi).length ≤ xs.length := by
  unfold gp
  rw [List.length_take, List.length_drop]
  omega
noncomputable def Iy (K : PySem.W.Frag) : V → Option Int → Option Int → Hp → VK → Prop := fun x lo hi H Q => ∃ a xs, x = .ref a ∧ bW K H a xs ∧
  ¬ (HT.aR xs.length 0 lo = 0 ∧ HT.aR xs.length xs.length hi = xs.length) ∧ ∀ p, H p = none → Q (.ref p) (upd H p (.tup (gp xs lo hi)))
theorem CK : vi X (Iy X.K) := by
  intro pins s σ H x v vl vu lo hi sl Q I rx hs pl pu h
  obtain ⟨a, xs, rfl, hx, hw, q⟩ := h
  cases rx
  obtain ⟨its, r, ht, hz⟩ := I.tuple hx
  have hlen : its.toArray.size = xs.length := by rw [List.size_toArray]; exact r.length.symm
  refine ⟨"tuple", _, PyProof.Rows.slot_tuple_getitem.lookup, ht.typeIs, ?_⟩
  refine HT.kz ht hs pl pu (by rw [hlen]; exact hw) ?_ (by rw [hlen]; exact hz)
  rw [hlen]
  refine ⟨.ref s.heap.objs.size, _, I.laid (t' := s.toks) (o := .tup (gp xs lo hi)) (fun b ob q => Heap.get?_push_of_some _ q) (Nat.le_refl _) ?_, rfl, q _ (I.hok.fresh (Nat.le_refl _))⟩
  exact ⟨Nat.le_trans (kN xs lo hi) hz, _, (r.drop (HT.aR xs.length 0 lo)).take (HT.aR xs.length xs.length hi - HT.aR xs.length 0 lo), gm.new _ _⟩
noncomputable def FP (K : PySem.W.Frag) : R2 := fun x y H Q => ∃ a b xs ys, x = .ref a ∧ y = .ref b ∧ bW K H a xs ∧ bW K H b ys ∧ xs ≠ [] ∧ xs.length + ys.length ≤ sizeLine ∧
  (ys = [] → Q (.ref a) H) ∧ (ys ≠ [] → ∀ p, H p = none → Q (.ref p) (upd H p (.tup (xs ++ ys))))
theorem Vals.iP {xs : List V} {us : List Value} (r : Vals xs us) : us = [] ↔ xs = [] := by
  cases r with
  | nil => simp
  | cons _ _ => simp
theorem Ap : OpR X (binaryOp .Add) (FP X.K) := by
  intro pins s σ H x y v u Q I rx ry h
  obtain ⟨a, b, xs, ys, rfl, rfl, ha, hb, hx, hz, q1, q2⟩ := h
  cases rx
  cases ry
  obtain ⟨its, r1, p1, _⟩ := I.tuple ha
  obtain ⟨iA, r2, p2, _⟩ := I.tuple hb
  refine HT.Al p1 p2 (fun z => hx (r1.iP.mp z)) (fun z => ⟨.ref a, H, I, rfl, q1 (r2.iP.mp z)⟩) (fun z => ?_) (by rw [← r1.length, ← r2.length]; exact hz)
  refine ⟨.ref s.heap.objs.size, _, I.laid (t' := s.toks) (o := .tup (xs ++ ys)) (fun b ob q => Heap.get?_push_of_some _ q) (Nat.le_refl _) ?_, rfl, q2 (fun w => z (r2.iP.mpr w)) _ (I.hok.fresh (Nat.le_refl _))⟩
  exact ⟨by rw [List.length_append]; exact hz, _, r1.append r2, gm.new _ _⟩
end
noncomputable def fA (n : Nat) (i : Int) : Option Nat := if 0 ≤ i then (if i < n then some i.toNat else none) else if -(n : Int) ≤ i then some (i + n).toNat else none
noncomputable def cB {α : Type} (xs : List α) (i : Int) : Option α := (fA xs.length i).bind fun j => xs[j]?
theorem m4 {n : Nat} {i : Int} {j : Nat} (h : fA n i = some j) : seqIndex? i n = some j ∧ j < n ∧ -(n : Int) ≤ i ∧ i < n := by
  unfold fA at h
  by_cases h0 : 0 ≤ i
  · rw [if_pos h0] at h
    by_cases h1 : i < n
    · rw [if_pos h1] at h
      have e : i.toNat = j := Option.some.inj h
      exact ⟨by rw [seqIndex_of h0 h1, e], by omega, by omega, h1⟩
    · rw [if_neg h1] at h; cases h
  · rw [if_neg h0] at h
    by_cases h1 : -(n : Int) ≤ i
    · rw [if_pos h1] at h
      have e : (i + n).toNat = j := Option.some.inj h
      exact ⟨by rw [seqIndex_neg (by omega) h1, e], by omega, h1, by omega⟩
    · rw [if_neg h1] at h; cases h
theorem m5 {α : Type} {xs : List α} {i : Int} {v : α} (h : cB xs i = some v) : ∃ j, seqIndex? i xs.length = some j ∧ xs[j]? = some v ∧ j < xs.length ∧ -(xs.length : Int) ≤ i ∧ i < xs.length := by
  unfold cB at h
  cases e : fA xs.length i with
  | none => rw [e] at h; cases h
  | some j =>
    rw [e] at h
    obtain ⟨h1, h2, h3, h4⟩ := m4 e
    exact ⟨j, h1, h, h2, h3, h4⟩
theorem bS {α : Type} {xs : List α} {j : Nat} {v : α} (h : xs[j]? = some v) : cB xs (j : Int) = some v := by
  have hj : j < xs.length := (List.getElem?_eq_some_iff.mp h).1
  have e : fA xs.length (j : Int) = some j := by
    unfold fA
    rw [if_pos (by omega), if_pos (by omega)]; simp
  unfold cB; rw [e]; exact h
noncomputable def sC (b : Expr) : Prop := ∀ o i, subscripted b false o i = operate [o, i] (getItem o i)
noncomputable def jH (X : Cx) (r : R2) : Prop :=
  ∀ (value slice : Expr) (pins : List (Addr × Obj)) (s : Shared) (σ : St) (H : Hp) (x y : V) (v u : Value) (Q : VK), Inv X pins σ H s → RelV x v → RelV y u → r x y H Q →
    subscripted slice false v u = operate [v, u] (getItem v u) → wpAny (model X.prog X.w) X.A (subscriptTail value slice v u) (EP X pins σ Q) X.xe s
noncomputable def CL (X : Cx) (id : String) (r : V → List V → Hp → VK → Prop) : Prop :=
  ∀ (pins : List (Addr × Obj)) (s : Shared) (σ : St) (H : Hp) (x : V) (xs : List V) (v : Value) (us : List Value) (Q : VK), Inv X pins σ H s → RelV x v → Vals xs us → r x xs H Q →
    wpAny (model X.prog X.w) X.A (call (.builtin id) (v :: us)) (EP X pins σ Q) X.xe s
section
variable {X : Cx} {a b : Expr} {ta tb : TE} {pos : Pos}
theorem jH.or {r r' : R2} (h : jH X r) (h' : jH X r') : jH X (fun x y H Q => r x y H Q ∨ r' x y H Q) := by
  intro value slice pins s σ H x y v u Q I rx ry q hs
  rcases q with q | q
  · exact h value slice pins s σ H x y v u Q I rx ry q hs
  · exact h' value slice pins s σ H x y v u Q I rx ry q hs
theorem FQ {r : R2} (hr : jH X r) (ha : PE X a ta) (hb : PE X b tb) (hs : sC b) : PE X (.Subscript a b pos) (u5 r ta tb) := by
  refine ⟨?_⟩
  intro pins s σ H Q I h
  exact Subscript_ (xk ha hb I h fun v u s2 x y H2 I2 rx ry q => hr a b pins s2 σ H2 x y v u Q I2 rx ry q (hs _ _))
noncomputable def CM (K : PySem.W.Frag) : R2 := fun x y H Q => ∃ p xs i v, x = .ref p ∧ y = .int i ∧ bQ K H p xs ∧ cB xs i = some v ∧ Q v H
noncomputable def CN (K : PySem.W.Frag) : R2 := fun x y H Q => ∃ p xs i v, x = .ref p ∧ y = .int i ∧ bW K H p xs ∧ cB xs i = some v ∧ Q v H
noncomputable def CO : R2 := fun x y H Q => ∃ z i c, x = .str z ∧ y = .int i ∧ z.length ≤ sizeLine ∧ cB z.cps.toList i = some c ∧ Q (.str ⟨#[c]⟩) H
theorem Aq : jH X (CM X.K) := by
  intro value slice pins s σ H x y v u Q I rx ry h hs
  obtain ⟨p, xs, i, z, rfl, rfl, hq, he, q⟩ := h
  cases rx
  obtain ⟨t, rfl⟩ := ry
  obtain ⟨its, r, pl, hz⟩ := I.list hq
  obtain ⟨j, h1, h2, h3, h4, h5⟩ := m5 he
  obtain ⟨w, ew, vj⟩ := r.get h2
  have hl := r.length
  have hn := iO
  have fin : EP X pins σ Q w s := ⟨z, H, I, vj, q⟩
  by_cases h0 : 0 ≤ i
  · have hj : i.toNat = j := by
      rw [seqIndex_of h0 h5] at h1
      exact Option.some.inj h1
    exact item_listR pl.isList h0 (by omega) (by rw [hj]; simpa using ew) fin hs
  · have hj : (i + (its.toArray.size : Int)).toNat = j := by
      rw [seqIndex_neg (by omega) h4] at h1
      rw [List.size_toArray, ← hl]
      exact Option.some.inj h1
    exact subscriptTail_builtinR (x := w) pl.isList.typeIs slot_list_getitem.lookup
      (wpAny_getItem_list_neg (Q := fun r s' => r = w ∧ EP X pins σ Q r s') pl.isList (by omega) (by rw [List.size_toArray] <;> omega) (by omega) (by rw [hj]; simpa using ew) ⟨rfl, fin⟩) hs
theorem CP : jH X (CN X.K) := by
  intro value slice pins s σ H x y v u Q I rx ry h hs
  obtain ⟨p, xs, i, z, rfl, rfl, hq, he, q⟩ := h
  cases rx
  obtain ⟨t, rfl⟩ := ry
  obtain ⟨its, r, pl, hz⟩ := I.tuple hq
  obtain ⟨j, h1, h2, h3, h4, h5⟩ := m5 he
  obtain ⟨w, ew, vj⟩ := r.get h2
  have hl := r.length
  have hn := iO
  have fin : EP X pins σ Q w s := ⟨z, H, I, vj, q⟩
  exact subscriptTail_builtinR (x := w) pl.typeIs slot_tuple_getitem.lookup
    (getItem_tuple (j := j) (Q := fun r s' => r = w ∧ EP X pins σ Q r s') pl (by omega) (by omega) (by rw [List.size_toArray, ← hl]; exact h1) (by simpa using ew) ⟨rfl, fin⟩) hs
theorem CQ : jH X CO := by
  intro value slice pins s σ H x y v u Q I rx ry h hs
  obtain ⟨z, i, c, rfl, rfl, hz, he, q⟩ := h
  obtain ⟨t, rfl⟩ := rx
  obtain ⟨t', rfl⟩ := ry
  obtain ⟨j, h1, h2, h3, h4, h5⟩ := m5 he
  have hl : z.cps.toList.length = z.length := by simp [Str.length]
  rw [hl] at h1 h4 h5
  have hn := iO
  exact tail_any (typeIs_str s z t) slot_str_getitem.lookup (getItem_str (c := c) (by
    have e1 : decide (i < -(2 ^ 63 : Int)) = false := decide_eq_false (by omega)
    have e2 : decide (i ≥ 2 ^ 63) = false := decide_eq_false (by omega)
    rw [e1, e2, Bool.or_false]) (by rw [h1]; simpa using h2) ⟨.str ⟨#[c]⟩, H, I.tok _, ⟨_, rfl⟩, q⟩) hs
noncomputable def G2 (K : PySem.W.Frag) : R2 := fun x y H Q => CM K x y H Q ∨ CN K x y H Q ∨ CO x y H Q
theorem CT : jH X (G2 X.K) := Aq.or (CP.or CQ)
theorem tI (its : List Value) (n j : Nat) (u : Value) : Obj.mapSeq (·.setIfInBounds j u) { cls := .type "list", data := .seq its.toArray n } = { cls := .type "list", data := .seq (its.set j u).toArray n } := by
  simp [Obj.mapSeq]
theorem Inv.lst {pins : List (Addr × Obj)} {σ : St} {H : Hp} {s : Shared} {p : Addr} {xs : List V} (I : Inv X pins σ H s) (h : H p = some (.lst xs)) :
    ∃ (its : List Value) (n : Nat), Vals xs its ∧ s.heap.get? p = some { cls := .type "list", data := .seq its.toArray n } ∧ xs.length ≤ sizeLine := by
  obtain ⟨z, its, n, r, e⟩ := I.hok p _ h
  exact ⟨its, n, r, e, z⟩
theorem Inv.CU {pins : List (Addr × Obj)} {σ : St} {H : Hp} {s : Shared} {p : Addr} {xs ys : List V} {its its' : List Value} {n n' : Nat} {f : Obj → Obj} (I : Inv X pins σ H s) (h : H p = some (.lst xs))
    (ho : s.heap.get? p = some { cls := .type "list", data := .seq its.toArray n }) (hf : f { cls := .type "list", data := .seq its.toArray n } = { cls := .type "list", data := .seq its'.toArray n' }) (r : Vals ys its') (hz : ys.length ≤ sizeLine) (t : Nat) :
    Inv X pins σ (upd H p (.lst ys)) { s with heap := s.heap.update p f, toks := t } := by
  have e : (s.heap.update p f).get? p = some { cls := .type "list", data := .seq its'.toArray n' } := by
    rw [Heap.get?_update_self f ho (by rw [hf] <;> rfl), hf]
  refine I.write (x := p) (e := p) (by rw [h]; trivial) (.inl rfl) (fun b u hb q => (Heap.get?_update_other _ _ (Ne.symm hb)).trans q) ⟨_, e⟩ ?_
  exact ⟨hz, its', n', r, e⟩
noncomputable def FR : V → V → V → Hp → (Hp → Prop) → Prop := fun o i v H Q => ∃ p xs k j, o = .ref p ∧ i = .int k ∧ H p = some (.lst xs) ∧ fA xs.length k = some j ∧ Q (upd H p (.lst (xs.set j v)))
theorem set_list : Cb X FR := by
  intro pins s σ H o i v ov iv u Q I ro ri rv h
  obtain ⟨p, xs, k, j, rfl, rfl, hp, hj, q⟩ := h
  cases ro
  obtain ⟨t, rfl⟩ := ri
  obtain ⟨its, n, r, ho, hz⟩ := I.lst hp
  obtain ⟨h1, h2, h3, h4⟩ := m4 hj
  have hl := r.length
  have hn := iO
  have I' : Inv X pins σ (upd H p (.lst (xs.set j v))) { s with heap := s.heap.update p (Obj.mapSeq (·.setIfInBounds j u)) } :=
    I.CU hp ho (tI its n j u) (r.set rv j) (by rw [List.length_set]; exact hz) s.toks
  by_cases h0 : 0 ≤ k
  · have hk : k.toNat = j := by
      rw [seqIndex_of h0 h4] at h1
      exact Option.some.inj h1
    exact PySem.W.ki_setAt ho h0 (by omega) (by rw [List.size_toArray, ← hl]; exact h4) (by rw [hk]; exact ⟨_, I', q⟩)
  · have hk : (k + (its.toArray.size : Int)).toNat = j := by
      rw [seqIndex_neg (by omega) h3] at h1
      rw [List.size_toArray, ← hl]
      exact Option.some.inj h1
    exact PySem.W.ki_setBack ho (by omega) (by rw [List.size_toArray, ← hl]; exact h3) (by omega) (by rw [hk]; exact ⟨_, I', q⟩)
theorem pN (lo hi : Option Int) (n : Nat) : (sliceBounds lo hi none n).1 = ((HT.aR n 0 lo : Nat) : Int) ∧ (sliceBounds lo hi none n).2.1 = ((HT.aR n n hi : Nat) : Int) ∧ (sliceBounds lo hi none n).2.2 = 1 := by
  refine ⟨?_, ?_, rfl⟩
  · cases lo with
    | none => simp [sliceBounds, HT.aR]
    | some i =>
      simp only [sliceBounds, HT.aR, Option.getD_none, show (1 : Int) > 0 by decide, if_true]
      by_cases h : i < 0
      · simp only [h, if_true] <;> omega
      · simp only [h, if_false] <;> omega
  · cases hi with
    | none => simp [sliceBounds, HT.aR]
    | some i =>
      simp only [sliceBounds, HT.aR, Option.getD_none, show (1 : Int) > 0 by decide, if_true]
      by_cases h : i < 0
      · simp only [h, if_true] <;> omega
      · simp only [h, if_false] <;> omega
theorem oH (its : List Value) (lo hi : Option Int) : slicePick its.toArray lo hi none = ((its.drop (HT.aR its.length 0 lo)).take (HT.aR its.length its.length hi - HT.aR its.length 0 lo)).toArray := by
  obtain ⟨h1, h2, h3⟩ := pN lo hi its.toArray.size
  unfold slicePick
  rw [h1, h2, h3]
  simp only [sliceRange_one, pick_run, List.size_toArray] <;> rfl
noncomputable def Iz (K : PySem.W.Frag) : V → Option Int → Option Int → Hp → VK → Prop := fun x lo hi H Q => ∃ a xs, x = .ref a ∧ bQ K H a xs ∧ ∀ p, H p = none → Q (.ref p) (upd H p (.lst (gp xs lo hi)))
theorem JG : vi X (Iz X.K) := by
  intro pins s σ H x v vl vu lo hi sl Q I rx hs pl pu h
  obtain ⟨a, xs, rfl, hx, q⟩ := h
  cases rx
  obtain ⟨its, r, ht, hz⟩ := I.list hx
  have hlen := r.length
  refine ⟨"list", _, slot_list_getitem.lookup, ht.isList.typeIs, ?_⟩
  refine wpAny_getItem_list_slice ht.isList hs pl pu .none (by simp) ?_ (by rw [List.size_toArray] <;> omega)
  rw [oH, ← hlen]
  refine ⟨.ref s.heap.objs.size, _, I.laid (t' := s.toks) (o := .lst (gp xs lo hi)) (fun b ob q => Heap.get?_push_of_some _ q) (Nat.le_refl _) ?_, rfl, q _ (I.hok.fresh (Nat.le_refl _))⟩
  exact ⟨Nat.le_trans (kN xs lo hi) hz, _, 0, (r.drop (HT.aR xs.length 0 lo)).take (HT.aR xs.length xs.length hi - HT.aR xs.length 0 lo), Heap.get?_push_size _ rfl⟩
theorem pO : cL X (.type "list") (fun xs H Q => ∃ p ys, xs = [.ref p] ∧ (bQ X.K H p ys ∨ bW X.K H p ys) ∧ ∀ l, H l = none → Q (.ref l) (upd H l (.lst ys))) := by
  intro pins s σ H xs us Q I r h
  obtain ⟨p, ys, rfl, hq, q⟩ := h
  obtain ⟨u, rfl, rx⟩ := vals1 r
  cases rx
  have fin : ∀ (its : List Value), Vals ys its → ys.length ≤ sizeLine → ∀ (h' : Heap) (c' : Nat), (∀ b o', s.heap.get? b = some o' → h'.get? b = some o') →
      h'.get? s.heap.objs.size = some { cls := .type "list", dict := none, data := .seq its.toArray c', slots := #[] } → EP X pins σ Q (.ref s.heap.objs.size) { s with heap := h' } := fun its r' hz h' c' kp e =>
    ⟨.ref s.heap.objs.size, _, I.laid (t' := s.toks) kp (Nat.le_refl _) (show bt X.prog X.w _ h' _ (.lst ys) from ⟨hz, its, c', r', e⟩), rfl, q _ (I.hok.fresh (Nat.le_refl _))⟩
  rcases hq with hq | hq
  · obtain ⟨its, r', pl, hz⟩ := I.list hq
    have hlen := r'.length
    obtain ⟨o, ho, hc, n, hd⟩ := pl.isList
    exact call_list_seq p (.inl rfl) ho hc hd (fun h' c' kp e => fin its r' hz h' c' kp e) (by simp only [List.size_toArray] <;> omega)
  · obtain ⟨its, r', pl, hz⟩ := I.tuple hq
    have hlen := r'.length
    obtain ⟨o, ho, hc, n, hd⟩ := pl
    exact call_list_seq p (.inr rfl) ho hc hd (fun h' c' kp e => fin its r' hz h' c' kp e) (by simp only [List.size_toArray] <;> omega)
theorem oI : cL X (.type "tuple") (fun xs H Q => ∃ p ys, xs = [.ref p] ∧ ((bQ X.K H p ys ∧ ∀ l, H l = none → Q (.ref l) (upd H l (.tup ys))) ∨ (bW X.K H p ys ∧ Q (.ref p) H))) := by
  intro pins s σ H xs us Q I r h
  obtain ⟨p, ys, rfl, h⟩ := h
  obtain ⟨u, rfl, rx⟩ := vals1 r
  cases rx
  rcases h with ⟨hq, q⟩ | ⟨hq, q⟩
  · obtain ⟨its, r', pl, hz⟩ := I.list hq
    have hlen := r'.length
    refine call_tuple_list pl.isList (fun h' kp => ?_) (by simp only [List.size_toArray] <;> omega)
    have I1 : Inv X pins σ H { s with heap := h' } := I.kept (t' := s.toks) kp
    have I2 : Inv X pins σ (upd H h'.objs.size (.tup ys)) { s with heap := h'.push { cls := .type "tuple", data := .seq its.toArray } } :=
      I1.laid (t' := s.toks) (fun b o e => Heap.get?_push_of_some _ e) (Nat.le_refl _) (show bt X.prog X.w _ _ _ (.tup ys) from ⟨hz, its, r', gm.new _ _⟩)
    exact ⟨.ref h'.objs.size, _, I2, rfl, q _ (I1.hok.fresh (Nat.le_refl _))⟩
  · obtain ⟨its, r', pl, hz⟩ := I.tuple hq
    exact call_tuple_same pl ⟨.ref p, H, I, rfl, q⟩
noncomputable def CV (K : PySem.W.Frag) (T : String) (x : V) (H : Hp) : Prop := match x with
  | .str _ => T = "str"
  | .int _ => T = "int"
  | .ref p => (T = "list" ∧ ∃ xs, bQ K H p xs) ∨ (T = "tuple" ∧ ((∃ o, K.lookup p = some o ∧ o.cls = .type "tuple" ∧ o.dict = none) ∨ ∃ xs, H p = some (.tup xs))) ∨
      (T = "dict" ∧ ((∃ bL, H p = some (.dK bL)) ∨ ∃ bL, H p = some (.dT bL))) ∨ (T = "set" ∧ ∃ S n, H p = some (.set S n))
  | _ => False
theorem CW {pins : List (Addr × Obj)} {σ : St} {H : Hp} {s : Shared} {T : String} {x : V} {v : Value} (I : Inv X pins σ H s) (r : RelV x v) (ty : CV X.K T x H) :
    s.TypeIs v T ∧ ∀ a, v = .ref a → ∃ ob, s.heap.get? a = some ob ∧ ob.dict = none := by
  cases x with
  | str z =>
    obtain ⟨t, rfl⟩ := r
    cases (show T = "str" from ty)
    exact ⟨typeIs_str s z t, fun _ e => nomatch e⟩
  | int i =>
    obtain ⟨t, rfl⟩ := r
    cases (show T = "int" from ty)
    exact ⟨typeIs_int s i t, fun _ e => nomatch e⟩
  | ref p =>
    cases r
    rcases ty with ⟨rfl, xs, hq⟩ | ⟨rfl, ⟨o, hk, hc, hd⟩ | ⟨xs, hk⟩⟩ | ⟨rfl, hk⟩ | ⟨rfl, S, n, hk⟩
    · obtain ⟨its, _, pl, _⟩ := I.list hq
      refine ⟨pl.isList.typeIs, fun a e => ?_⟩
      cases e
      obtain ⟨o, n, e, c, hd, _⟩ := pl
      exact ⟨o, e, hd⟩
    · refine ⟨⟨o, I.eF p o hk, hc⟩, fun a e => ?_⟩
      cases e
      exact ⟨o, I.eF _ o hk, hd⟩
    · obtain ⟨_, its, _, o, e, c, n, d, hd⟩ := I.hok p _ hk
      refine ⟨⟨o, e, c⟩, fun a e2 => ?_⟩
      cases e2
      exact ⟨o, e, hd⟩
    · have z : ∃ o, s.heap.get? p = some o ∧ o.ExactDict := by
        rcases hk with ⟨bL, hk⟩ | ⟨bL, hk⟩
        · obtain ⟨_, _, _, _, o, _, _, e, ex, _⟩ := I.hok p _ hk
          exact ⟨o, e, ex⟩
        · obtain ⟨_, _, _, _, o, _, _, e, ex, _⟩ := I.hok p _ hk
          exact ⟨o, e, ex⟩
      obtain ⟨o, e, ex⟩ := z
      refine ⟨⟨o, e, ex.1⟩, fun a e2 => ?_⟩
      cases e2
      exact ⟨o, e, ex.2.1⟩
    · obtain ⟨o, _, _, _, e, ex, _⟩ := I.hok p _ hk
      refine ⟨⟨o, e, ex.1⟩, fun a e2 => ?_⟩
      cases e2
      exact ⟨o, e, ex.2.1⟩
  | _ => exact False.elim ty
noncomputable def G3 (K : PySem.W.Frag) (T : String) (r : V → List V → Hp → VK → Prop) (to : TE) (t : TA) : TE := fun σ H Q => to σ H fun x H1 => CV K T x H1 ∧ t σ H1 fun xs H2 => r x xs H2 Q
variable {o e : Expr} {es : List Expr} {to : TE} {t : TA} {name : Str} {apos bg : Pos} {T id : String} {r : V → List V → Hp → VK → Prop}
theorem FT (pa : PlainAttrs T) (slot : Slot T name id) (vk : typeOf (.builtin id) = pure (.type "method_descriptor")) (hm : CL X id r) (ho : PE X o to) (ha : PA X (e :: es) t)
    (lU : attributeBase o name X.env (eval o X.env) = eval o X.env := by rfl)
    (pP : ((backTo bg (starEach (e :: es) X.env)).all (fun x => !x.1) && (backToKw bg (keywordEach [] X.env)).all (fun x => x.1.isSome)
      && decide ((e :: es).length + ([] : List Keyword).length + (if ([] : List Keyword).isEmpty then 0 else 1) < 30)) = true := by rfl)
    (hline : (apos.endLine == bg.line) = true := by rfl) (hs : starEach (e :: es) X.env = (false, eval e X.env) :: starEach es X.env := by rfl) (jI : (backTo bg (starEach es X.env)).any (·.1) = false := by rfl) :
    PE X (.Call (.Attribute o name apos) (e :: es) [] bg) (G3 X.K T r to t) := by
  refine ⟨?_⟩
  intro pins s σ H Q I h
  refine wpAny_Call_method_late lU pP hline rfl (thn (ho pins s σ H _ I h) fun v s1 ⟨x, H1, I1, r1, ty, q1⟩ => ?_)
  obtain ⟨h1, h2⟩ := CW I1 r1 ty
  refine ⟨T, id, pa, slot, vk, h1, h2, ?_⟩
  have hA := ha bg pins s1 σ H1 _ I1 q1
  rw [hs] at hA ⊢
  refine Calls.callWith_builtin (by show (false || (backTo bg (starEach es X.env)).any (·.1)) = false; rw [jI] <;> rfl) (Calls.evalArgs_plain ?_)
  exact thn hA fun us s2 ⟨vs, H2, I2, r2, q2⟩ => hm pins s2 σ H2 x vs v us Q I2 r1 r2 q2
end
noncomputable def CY (X : Cx) (id : String) (r : V → List V → Hp → VK → Prop) : Prop :=
  ∀ (pins : List (Addr × Obj)) (s : Shared) (σ : St) (H : Hp) (x : V) (xs : List V) (v : Value) (us : List Value) (Q : VK), Inv X pins σ H s → RelV x v → Vals xs us → r x xs H Q →
    wpAny (model X.prog X.w) X.A (call (.builtin id) (v :: us)) (EP X pins σ Q) X.xe s
theorem Vals.one : ∀ {x : V} {us : List Value}, Vals [x] us → ∃ u, us = [u] ∧ RelV x u
  | _, _, .cons r .nil => ⟨_, rfl, r⟩
theorem Vals.eraseIdx : ∀ {xs : List V} {us : List Value} (i : Nat), Vals xs us → Vals (xs.eraseIdx i) (us.eraseIdx i)
  | _, _, _, .nil => .nil
  | _, _, 0, .cons _ t => t
  | _, _, i + 1, .cons r t => .cons r (Vals.eraseIdx i t)
theorem Vals.rep {xs : List V} {us : List Value} (h : Vals xs us) : ∀ k : Nat, Vals (List.replicate k xs).flatten (List.replicate k us).flatten
  | 0 => .nil
  | k + 1 => by
    rw [List.replicate_succ, List.replicate_succ, List.flatten_cons, List.flatten_cons]
    exact Vals.append h (Vals.rep h k)
theorem og {α : Type} : ∀ (l : List α) (i : Nat), (l.eraseIdx i).length ≤ l.length
  | [], _ => Nat.le_refl _
  | _ :: _, 0 => Nat.le_succ _
  | _ :: r, i + 1 => Nat.succ_le_succ (og r i)
theorem foldl_rep (its : List Value) : ∀ (k : Nat) (acc : List Value),
    List.foldl (fun x1 x2 => x1 ++ x2) acc.toArray (List.replicate k its.toArray) = (acc ++ (List.replicate k its).flatten).toArray
  | 0, acc => by simp
  | k + 1, acc => by
    have e : acc.toArray ++ its.toArray = (acc ++ its).toArray := by simp
    have e2 : (acc ++ its) ++ (List.replicate k its).flatten = acc ++ (List.replicate (k + 1) its).flatten := by
      rw [List.replicate_succ, List.flatten_cons, List.append_assoc]
    rw [← e2, ← foldl_rep its k (acc ++ its), ← e, List.replicate_succ, List.foldl_cons]
section
variable {X : Cx} {pins : List (Addr × Obj)} {σ : St} {H : Hp} {s : Shared} {l b : Addr} {xs ys zs : List V}
theorem Inv.xC {its its' : List Value} {n : Nat} {f : Array Value → Array Value} {t' : Nat} (I : Inv X pins σ H s) (hH : H l = some (.lst xs))
    (e : s.heap.get? l = some { cls := .type "list", data := .seq its.toArray n }) (hf : f its.toArray = its'.toArray) (hv : Vals ys its') (hz : ys.length ≤ sizeLine) :
    Inv X pins σ (upd H l (.lst ys)) { s with heap := s.heap.update l (Obj.mapSeq f), toks := t' } := by
  have q := PySem.IsL.update e f
  rw [hf] at q
  refine I.write (x := l) (e := l) (by rw [hH]; exact trivial) (.inl rfl) (fun b' u hb hu => (Heap.get?_update_other s.heap (Obj.mapSeq f) (Ne.symm hb)).trans hu) ⟨_, q⟩ ?_
  exact ⟨hz, its', _, hv, q⟩
theorem Inv.CZ {its : List Value} {t' : Nat} (I : Inv X pins σ H s) (hv : Vals ys its) (hz : ys.length ≤ sizeLine) :
    Inv X pins σ (upd H s.heap.objs.size (.lst ys)) { s with heap := s.heap.push { cls := .type "list", data := .seq its.toArray }, toks := t' } :=
  I.laid (fun _ _ q => Heap.get?_push_of_some _ q) (Nat.le_refl _) ⟨hz, its, 0, hv, Heap.get?_push_size _ rfl⟩
theorem Inv.fresh (I : Inv X pins σ H s) : H s.heap.objs.size = none := I.hok.fresh (Nat.le_refl _)
theorem Inv.kZ (I : Inv X pins σ H s) (hH : H l = some (.lst xs)) : xs.length ≤ sizeLine ∧ ∃ (its : List Value) (n : Nat), Vals xs its ∧ xs.length = its.length ∧ s.heap.get? l = some { cls := .type "list", data := .seq its.toArray n } := by
  obtain ⟨z, its, n, r, e⟩ := I.hok l _ hH
  exact ⟨z, its, n, r, r.length, e⟩
theorem pQ {n : Nat} (h : n ≤ sizeLine) : Builtin.List.listTooLong n = false := by
  unfold Builtin.List.listTooLong
  exact decide_eq_false (by omega)
end
section
variable {X : Cx}
noncomputable def Ar : V → List V → Hp → VK → Prop := fun x vs H Q => ∃ l xs y, x = .ref l ∧ vs = [y] ∧ H l = some (.lst xs) ∧ xs.length < sizeLine ∧ Q .aC (upd H l (.lst (xs ++ [y])))
theorem oh : CY X "list.append" Ar := by
  intro pins s σ H x vs v us Q I rx rv h
  obtain ⟨l, xs, y, rfl, rfl, hH, hz, q⟩ := h
  cases rx
  obtain ⟨u, rfl, ru⟩ := rv.one
  obtain ⟨z, its, n, r, hl, e⟩ := I.kZ hH
  refine call_meets F.slot_list_append ⟨_, e, rfl⟩ F.entry_list_append (F.args_list_append_2 _ _) (PySem.list_append l its.toArray n u (by rw [List.size_toArray]; omega)) ⟨e, ?_⟩
  refine ⟨.aC, _, I.xC (its' := its ++ [u]) hH e (by simp) (r.append (.cons ru .nil)) ?_, rfl, q⟩
  rw [List.length_append, List.length_singleton]
  omega
noncomputable def As : V → List V → Hp → VK → Prop := fun x vs H Q => ∃ l b xs zs, x = .ref l ∧ vs = [.ref b] ∧ H l = some (.lst xs) ∧ H b = some (.lst zs) ∧ xs.length + zs.length ≤ sizeLine ∧ Q .aC (upd H l (.lst (xs ++ zs)))
theorem G4 : CY X "list.extend" As := by
  intro pins s σ H x vs v us Q I rx rv h
  obtain ⟨l, b, xs, zs, rfl, rfl, hH, hB, hz, q⟩ := h
  cases rx
  obtain ⟨u, rfl, ru⟩ := rv.one
  cases ru
  obtain ⟨z, its, n, r, hl, e⟩ := I.kZ hH
  obtain ⟨z2, iA, n2, r2, JW, e2⟩ := I.kZ hB
  have gw : its.toArray.size + iA.toArray.size ≤ sizeLine := by rw [List.size_toArray, List.size_toArray]; omega
  have tJ : ¬ (!its.toArray.isEmpty && Builtin.List.listTooLong (its.toArray.size + iA.toArray.size)) = true := by
    rw [pQ gw, Bool.and_false]
    exact Bool.false_ne_true
  refine call_meets F.slot_list_extend ⟨_, e, rfl⟩ F.entry_list_extend (F.args_list_extend_2 _ _)
    (AutoSeq1.list_extend_list_list_0 l its.toArray n b iA.toArray n2 tJ (by rw [List.size_toArray]; omega) (by omega)) ⟨e, e2, ?_⟩
  refine ⟨.aC, _, I.xC (its' := its ++ iA) hH e (by simp) (r.append r2) ?_, rfl, q⟩
  rw [List.length_append]
  omega
noncomputable def C1 : V → List V → Hp → VK → Prop := fun x vs H Q => ∃ l xs i k y, x = .ref l ∧ vs = [.int i] ∧ H l = some (.lst xs) ∧ -(2 ^ 63) ≤ i ∧ i < 2 ^ 63 ∧ seqIndex? i xs.length = some k ∧ xs[k]? = some y ∧ Q y (upd H l (.lst (xs.eraseIdx k)))
theorem xD : CY X "list.pop" C1 := by
  intro pins s σ H x vs v us Q I rx rv h
  obtain ⟨l, xs, i, k, y, rfl, rfl, hH, h1, h2, hk, hy, q⟩ := h
  cases rx
  obtain ⟨u, rfl, ru⟩ := rv.one
  obtain ⟨t, rfl⟩ := ru
  obtain ⟨z, its, n, r, hl, e⟩ := I.kZ hH
  obtain ⟨w, hw, vj⟩ := r.get hy
  refine call_meets F.slot_list_pop ⟨_, e, rfl⟩ F.entry_list_pop (F.args_list_pop_2 _ _)
    (MeetsSeq.list_pop_at l its.toArray n i t k w (fitsIndex_both h1 h2) (by rw [List.size_toArray, ← hl]; exact hk) (by rw [← Array.getElem?_toList]; exact hw) (by rw [List.size_toArray]; omega)) ⟨e, ?_⟩
  refine ⟨y, _, I.xC (its' := its.eraseIdx k) hH e ?_ (r.eraseIdx k) ?_, vj, q⟩
  · show its.toArray.eraseIdxIfInBounds k = (its.eraseIdx k).toArray
    rw [List.eraseIdxIfInBounds_toArray]
  · have := og xs k
    omega
noncomputable def IA : R2 := fun x y H Q => ∃ l b xs zs, x = .ref l ∧ y = .ref b ∧ H l = some (.lst xs) ∧ H b = some (.lst zs) ∧ xs.length + zs.length ≤ sizeLine ∧ ∀ p, H p = none → Q (.ref p) (upd H p (.lst (xs ++ zs)))
theorem C2 : OpR X (binaryOp .Add) IA := by
  intro pins s σ H x y v u Q I rx ry h
  obtain ⟨l, b, xs, zs, rfl, rfl, hH, hB, hz, q⟩ := h
  cases rx
  cases ry
  obtain ⟨z, its, n, r, hl, e⟩ := I.kZ hH
  obtain ⟨z2, iA, n2, r2, JW, e2⟩ := I.kZ hB
  refine PySem.P.add_list e e2 ?_ (by rw [List.size_toArray, List.size_toArray]; omega)
  have ea : its.toArray ++ iA.toArray = (its ++ iA).toArray := by simp
  rw [ea]
  exact ⟨.ref _, _, I.CZ (t' := s.toks) (r.append r2) (by rw [List.length_append]; omega), rfl, q _ I.fresh⟩
noncomputable def IB : R2 := fun x y H Q => ∃ l k xs, x = .ref l ∧ y = .int k ∧ H l = some (.lst xs) ∧ -(2 ^ 63) ≤ k ∧ k < 2 ^ 63 ∧ xs.length * k.toNat ≤ sizeLine ∧
  ∀ p, H p = none → Q (.ref p) (upd H p (.lst (List.replicate k.toNat xs).flatten))
theorem len_rep {α : Type} (xs : List α) (k : Nat) : (List.replicate k xs).flatten.length = k * xs.length := by
  induction k with
  | zero => simp
  | succ k ih => rw [List.replicate_succ, List.flatten_cons, List.length_append, ih, Nat.succ_mul, Nat.add_comm]
theorem C3 : OpR X (binaryOp .Mult) IB := by
  intro pins s σ H x y v u Q I rx ry h
  obtain ⟨l, k, xs, rfl, rfl, hH, h1, h2, hz, q⟩ := h
  cases rx
  obtain ⟨t, rfl⟩ := ry
  obtain ⟨z, its, n, r, hl, e⟩ := I.kZ hH
  have hlen : its.toArray.size * k.toNat ≤ sizeLine := by rw [List.size_toArray, ← hl]; exact hz
  have IC : ¬ its.toArray.size * k.toNat > (2 ^ 63 - 1) / 8 := by
    have : (sizeLine : Nat) ≤ (2 ^ 63 - 1) / 8 := by decide
    omega
  have IE : ¬ (!Builtin.List.listFitsIndex k) = true := by
    rw [fitsIndex_both h1 h2]
    exact Bool.false_ne_true
  have tJ : ¬ Builtin.List.listTooLong (its.toArray.size * k.toNat) = true := by
    rw [pQ hlen]
    exact Bool.false_ne_true
  have IG : List.foldl (fun x1 x2 => x1 ++ x2) #[] (List.replicate (if its.toArray.isEmpty = true then 0 else k.toNat) its.toArray) = (List.replicate k.toNat its).flatten.toArray := by
    have f0 : ∀ m : Nat, List.foldl (fun x1 x2 => x1 ++ x2) #[] (List.replicate m its.toArray) = (List.replicate m its).flatten.toArray := fun m => by
      have := foldl_rep its m []
      rw [List.nil_append] at this
      exact this
    rw [f0]
    cases its with
    | nil => simp
    | cons a r' => rw [if_neg (by simp)]
  refine wpAny_binaryOp_repeat_ref (T := "list") (U := "int") (by decide) ⟨_, e, rfl⟩ (fun s' => typeIs_int s' k t) noFill_list_mul F.fills_int_mul F.slot_int_rmul repeat_list F.slot_int_index.lookup
    (call_meets F.slot_int_rmul (typeIs_int s k t) F.entry_int_rmul (F.args_int_rmul_2 _ _) (int___rmul___int_list k t l its.toArray n)
      ⟨e, rfl, ⟨_, e, rfl⟩, call_meets F.slot_list_mul ⟨_, e, rfl⟩ F.entry_list_mul (F.args_list_mul_2 _ _) (AutoListH.list___mul___list_int_3 l its.toArray n k t IE IC tJ) ⟨e, ?_⟩⟩)
  rw [IG]
  exact ⟨.ref _, _, I.CZ (t' := s.toks) (r.rep k.toNat) (by rw [len_rep, Nat.mul_comm]; exact hz), rfl, q _ I.fresh⟩
end
end L2
namespace G5
open PySem PySem.W PySem.Calls PyProof.Rows
theorem lV {P : Params} {h : Heap} : ∀ (ns : List Int) (vs : List Value), WellAll P h vs (ns.map WData.int) → IntsAre vs ns := by
  intro ns
  induction ns with
  | nil =>
    intro vs w
    rw [List.map_nil] at w
    cases w
    exact .nil
  | cons n ns ih =>
    intro vs w
    rw [List.map_cons] at w
    cases w with
    | cons a b =>
      cases a
      exact .cons _ _ (ih _ b)
theorem vm {l : OpenLaw} {n : Nat} (hn : l.most = some n) {P : Params} {h : Heap} {args : List WData} {vals : List Value}
    (tK : l.row.toRowW.claim.pre args = true) (C4 : WellAll P h vals args) :
    ∃ a vs ns, vals = [Value.ref a] ∧ args = [WData.list (ns.map WData.int)] ∧ h.get? a = some { cls := .type "list", data := .seq vs.toArray } ∧ IntsAre vs ns ∧ ns.length ≤ n := by
  have JX : WShape.hasAll [] args [.list .int] = true := (pre_splitW tK).1
  have hc : l.pre.holds [] { args := args } = true := (pre_splitW tK).2
  obtain ⟨d, r, rfl, h1, h2⟩ := hasAllW_cons JX
  obtain rfl := hasAllW_nil h2
  obtain ⟨xs, rfl, h3⟩ := hasW_list h1
  obtain ⟨ns, rfl⟩ := items_int h3
  have hlen : ns.length ≤ n := by
    unfold OpenLaw.pre at hc
    have h4 : (WTm.not (.lt (.lit (.int (n : Int))) (.len (.arg 0)))).holds [] { args := [.list (ns.map .int)] } = true := by
      have h4 := (holds_andW hc).1
      rw [hn] at h4
      exact h4
    have h5 := condW_of h4 (w_not (w_lt w_lit (w_len_list (w_arg rfl))))
    rw [List.length_map] at h5
    refine Nat.le_of_not_lt fun q => ?_
    have q' : (n : Int) < ((ns.length : Nat) : Int) := by omega
    first
      | (rw [decide_eq_true q'] at h5; exact absurd h5 (by decide))
      | (simp at h5; omega)
  cases C4 with
  | cons w1 w2 =>
    cases w2
    cases w1 with
    | list ho IH => exact ⟨_, _, ns, rfl, rfl, ho, lV ns _ IH, hlen⟩
theorem vn (l : OpenLaw) (args : List WData) : l.row.toRowW.claim.post args (.bool true) args = true :=
  postW_of (r := l.row.toRowW) (X := (true == true))
    (show WShape.has [] (.bool true) .bool = true by first | rfl | decide | simp [WShape.has, WShape.arms, WShape.armsAll])
    (show (WTm.eq .res (.lit (.bool true))).value [] { args := args, res := some (.bool true), after := args } = some (.bool (true == true)) from w_eq_bool (w_res rfl) w_lit) rfl
theorem rD {l : OpenLaw} {n : Nat} {q : Program} {loose : List Str} {XP : (Str → Option Value) → Heap → Prop} {YP : World → Heap → Prop} {d : DefRec}
    (hn : l.most = some n) (vo : d.params.defaults = [])
    (call : ∀ (w : World) (s₀ aw : Shared) (mg mb : Str → Option Value) (fa : Addr) (o : Obj) (pm cd doc : Value) (a : Addr) (vs : List Value) (ns : List Int),
      Ground q loose [] XP w s₀ mg mb aw.heap → YP w aw.heap →
      aw.heap.get? fa = some o → o.data = .func (docDef d.name d.params d.body d.scope pm cd doc) → aw.heap.CodeRec cd d.name → mg d.name = some (.ref fa) →
      aw.heap.get? a = some { cls := .type "list", data := .seq vs.toArray } → IntsAre vs ns → ns.length ≤ n → aw.gens = #[] →
      codeAny (model l.prog w) callerA (.call (.ref fa) ⟨[.ref a], []⟩) (fun r s' => r = .ok (.ret (.bool true)) ∧ OldK aw.heap s'.heap ∧ s'.os = aw.os ∧ AllBare s'.gens) aw) :
    WalkO q loose XP YP l.row.toRowW d [] (fun f vs => PySem.call f vs) := by
  intro w s₀ aw mg mb G Y fa o pm cd doc dV kV ho hd fx hD vp hg args vals as tK LN LX C4 LY
  obtain rfl : dV = .none := Dflts.none hD vo
  obtain rfl : kV = .none := Dflts.noKw hD
  obtain ⟨a, vs, ns, rfl, rfl, xE, hints, hlen⟩ := vm hn tK C4
  refine enter_call (codeAny_mono (call w s₀ aw mg mb fa o pm cd doc a vs ns G Y ho (fd_plain hd) fx vp xE hints hlen hg) fun r s' hq => ?_)
  obtain ⟨rfl, h2, h3, h4⟩ := hq
  exact ⟨.inl ⟨.bool true, .bool true, [], rfl, fun _ => rfl, .bool true, vn l _, fun _ => ⟨List.Pairwise.nil, fun _ hm => (nomatch hm)⟩⟩, h2, h3, h4⟩
end G5
namespace L2
open PySem PySem.Spec PyProof.Rows
theorem oi : ∀ {vs : List Value} {ns : List Int}, IntsAre vs ns → Vals (ns.map V.int) vs
  | _, _, .nil => .nil
  | _, _, .cons n t h => .cons ⟨t, rfl⟩ (oi h)
noncomputable def cf (s : Stmt) : Arguments := match s with
  | .FunctionDef _ a _ _ _ _ _ _ _ _ => a
  | _ => { posonlyargs := [], args := [], vararg := none, kwonlyargs := [], kw_defaults := [], kwarg := none, defaults := [] }
noncomputable def bB (s : Stmt) : List Stmt := match s with
  | .FunctionDef _ _ b _ _ _ _ _ _ _ => b
  | _ => []
noncomputable def ak (s : Stmt) : Scope := match s with
  | .FunctionDef _ _ _ _ _ _ sc _ _ _ => sc
  | _ => { kind := .function, names := [], isGenerator := false, isCoroutine := false }
noncomputable abbrev b9 : fk := fun _ _ _ _ _ _ => False
noncomputable abbrev E0 : XK := fun _ _ _ => False
theorem bH {X : Cx} : Passes b9 X E0 := fun _ _ _ _ _ _ _ h => h.elim
structure oj (K : PySem.W.Frag) (x qual : Str) (st : Stmt) (f : Addr) (fd : FuncData) : Prop where
  ex : ∃ (oc : Value) (od : Option Addr) (kV doc pm : Value) (an : Option Addr) (b8 ct : Value) (gv : Array (Option Value)),
    fd = PySem.W.fnOf x qual (cf st) (bB st) (ak st) .none kV doc pm an b8 ct ∧ K.lookup f = some ⟨oc, od, .func fd, gv⟩ ∧ PySem.W.codeIn K b8 qual = true
  kp : PySem.W.keepIn K (.ref f) = true
section
variable {P : Program} {w : World} {K : PySem.W.Frag} {mg : Str → Option Value} {base : Heap}
theorem oj.binds {x qual : Str} {st : Stmt} {f : Addr} {fd : FuncData} {ps : List Str} (F : oj K x qual st f fd)
    (h : ∀ (kV doc pm : Value) (an : Option Addr) (b8 ct : Value) (us : List Value), us.length = ps.length → bindArgs (PySem.W.fnOf x qual (cf st) (bB st) (ak st) .none kV doc pm an b8 ct) ⟨us, []⟩ = pure (ps.zip us)) : Binds K fd ps [] := by
  obtain ⟨oc, od, kV, doc, pm, an, b8, ct, gv, rfl, lk, fx⟩ := F.ex
  exact .all (h kV doc pm an b8 ct)
theorem C5 {x qual : Str} {st : Stmt} {f : Addr} {oc : Value} {od an : Option Addr} {gv : Array (Option Value)} {kV doc pm b8 ct : Value} (l : K.lookup f = some ⟨oc, od, .func (PySem.W.fnOf x qual (cf st) (bB st) (ak st) .none kV doc pm an b8 ct), gv⟩)
    (c : PySem.W.codeIn K b8 qual = true) (k : PySem.W.keepIn K (.ref f) = true) : oj K x qual st f (PySem.W.fnOf x qual (cf st) (bB st) (ak st) .none kV doc pm an b8 ct) := ⟨⟨oc, od, kV, doc, pm, an, b8, ct, gv, rfl, l, c⟩, k⟩
end
section
variable {X : Cx}
theorem pv (i : Nat) {x : Str} {pos : Pos} (hN : X.N[i]? = some x := by rfl) (hv : pF X.env.scope x := by first | exact Or.inl rfl | exact Or.inr (Or.inl rfl) | exact Or.inr (Or.inr rfl)) (hd : (x == ("__debug__" : Str)) = false := by decide)
    (fx : (x == ("__classdict__" : Str)) = false := by decide) : PE X (.Name x pos) (BZ i) := uN hN hv hd fx
end
end L2
set_option maxHeartbeats 4000000
namespace L2
open PySem PySem.Spec PyProof.Rows
theorem i9 {env : Env} : ∀ (names : List (Str × NameKind)) (acc : List (Str × Addr)), (∀ n, (n, NameKind.free) ∈ names → ∃ c, env.cells.lookup n = some c) →
    (∀ n c, acc.lookup n = some c → env.cells.lookup n = some c) →
    ∃ cl, (forIn names acc fun x r => if (x.2 == NameKind.free) = true then (do let a ← cellOf env x.1; pure (ForInStep.yield ((x.1, a) :: r))) else pure (ForInStep.yield r) : Sem (List (Str × Addr))) = pure cl ∧
      (∀ n c, cl.lookup n = some c → env.cells.lookup n = some c) ∧ (∀ n, (n, NameKind.free) ∈ names → ∃ c, cl.lookup n = some c) ∧ (∀ n c, acc.lookup n = some c → ∃ c', cl.lookup n = some c')
  | [], acc, _, h2 => ⟨acc, rfl, h2, fun n h => by simp at h, fun n c h => ⟨c, h⟩⟩
  | (n, k) :: r, acc, h1, h2 => by
    rw [List.forIn_cons]
    cases hk : (k == NameKind.free) with
    | true =>
      have ek : k = NameKind.free := by simpa using hk
      subst ek
      obtain ⟨c, hc⟩ := h1 n List.mem_cons_self
      have e1 : cellOf env n = pure c := by unfold cellOf; rw [hc]
      obtain ⟨cl, e, a1, a2, a3⟩ := i9 r ((n, c) :: acc) (fun m hm => h1 m (List.mem_cons_of_mem _ hm)) (fun m c' hm => by
        rw [List.lookup_cons] at hm
        cases hb : m == n with
        | true =>
          rw [hb] at hm
          have e2 : m = n := by simpa using hb
          rw [e2, hc]; exact hm
        | false => rw [hb] at hm; exact h2 m c' hm)
      refine ⟨cl, ?_, a1, fun m hm => ?_, fun m c' hm => ?_⟩
      · simp only [if_true, e1]
        exact e
      · rcases List.mem_cons.mp hm with z | z
        · cases z
          exact a3 n c (by rw [List.lookup_cons]; simp)
        · exact a2 m z
      · by_cases hb : m = n
        · subst hb
          exact a3 m c (by rw [List.lookup_cons]; simp)
        · exact a3 m c' (by
            rw [List.lookup_cons]
            have : (m == n) = false := by simpa using hb
            rw [this]; exact hm)
    | false =>
      obtain ⟨cl, e, a1, a2, a3⟩ := i9 r acc (fun m hm => h1 m (List.mem_cons_of_mem _ hm)) h2
      refine ⟨cl, ?_, a1, fun m hm => ?_, a3⟩
      · simp only [Bool.false_eq_true, if_false]
        exact e
      · rcases List.mem_cons.mp hm with z | z
        · cases z; simp at hk
        · exact a2 m z
theorem ja {scope : Scope} {env : Env} (h : ∀ n, (n, NameKind.free) ∈ scope.names → ∃ c, env.cells.lookup n = some c) :
    ∃ cl, closureFor scope env = pure cl ∧ (∀ n c, cl.lookup n = some c → env.cells.lookup n = some c) ∧ (∀ n, (n, NameKind.free) ∈ scope.names → ∃ c, cl.lookup n = some c) := by
  obtain ⟨cl, e, a1, a2, _⟩ := i9 (env := env) scope.names [] h (fun n c hn => by simp at hn)
  refine ⟨cl, ?_, a1, a2⟩
  simp only [closureFor]
  rw [e]
  rfl
noncomputable def cxBlock (X : Cx) (N' : List Str) (env' : Env) (A' : Around) (stack' : List Env) (s : Shared) (H : Hp) (ex : List Addr) : Cx :=
  { X with N := N', s₀ := s, H₀ := H, env := env', A := A', outer := X.stack, stack := stack', ex := ex, fn := fun _ => false, pn := [], xe := fun _ _ => False }
theorem om {X : Cx} {pins : List (Addr × Obj)} {σ aJ : St} {H H' : Hp} {s : Shared} {N' : List Str} {env' : Env} {A' : Around} {stack' : List Env} {ex : List Addr} {h1 : Heap} {m0 : Str → Option Value} {g' : Array GenState} {tk : Nat}
    (I : Inv X pins σ H s) (pj : env'.scope.kind = .function) (FU : env'.globals = X.env.globals) (II : env'.builtins = X.env.builtins)
    (gy : ∀ n c, env'.cells.lookup n = some c → X.env.cells.lookup n = some c)
    (C6 : ∀ x, (env'.kindOf x = some .cell ∨ env'.kindOf x = some .free) → ∃ c, env'.cells.lookup x = some c)
    (hh : X.calm = true → A'.handled = none) (vq : A'.frames = some stack') (IJ : stack' = X.stack ∨ (stack' = env' :: X.stack ∧ env'.frame = some env'.locals))
    (hC : s.heap.objs.size ≤ env'.locals) (hf : ∀ b ∈ ex, eZ X pins H b) (IK : ∀ b ∈ ex, b < s.heap.objs.size)
    (G6 : Un (eE X.stack) ex H H' s.heap h1) (hok : da X.prog X.w H' h1) (C7 : H' env'.locals = none) (zl : ∀ b o, s.heap.get? b = some o → h1.get? b = some o) (lW : h1.Ns env'.locals m0)
    (C8 : ∀ (i : Nat) (x : Str) (v : V), N'[i]? = some x → aJ[i]? = some (some v) → pF env'.scope x → (env'.kindOf x = some .cell ∨ env'.kindOf x = some .free) ∧ pF X.env.scope x ∧ (X.env.kindOf x = some .cell ∨ X.env.kindOf x = some .free) ∧ ∃ j : Nat, X.N[j]? = some x ∧ σ[j]? = some (some v))
    (hlen : aJ.length = N'.length) (hg : Gn s.gens.size g') : Inv (cxBlock X N' env' A' stack' s H ex) [] aJ H' { s with heap := h1, gens := g', toks := tk } := by
  have G7 : ∀ b ∈ ex, ∀ x c, X.env.cells.lookup x = some c → c ≠ b := fun b hb => (hf b hb).2.2.2.2.1
  refine ⟨⟨I.ok.mod, pj, FU.trans I.ok.glob, II.trans I.ok.blt, hC, fun x y c a b => I.ok.inj x y c (gy x c a) (gy y c b), C6, fun _ _ z => (nomatch z), hh, vq, IJ, fun b hb => ⟨Nat.ne_of_lt (Nat.lt_of_lt_of_le (IK b hb) hC), fun x c e => G7 b hb x c (gy x c e)⟩,
      I.bs, Nat.le_trans I.ok.bsz I.sz, fun b o e hb => ?_, fun b hb z => ?_, I.stack, I.mY⟩, rfl, hg, G6, ⟨m0, lW, fun i x v e1 e2 e3 => ?_⟩, fun x c e => ?_, C7, fun x c e => ?_, fun p hp => absurd (show p ∈ ([] : List (Addr × Obj)) from hp) (by simp), hok, hlen⟩
  · rcases (hf b hb).2.2.2.1 with z | z
    · exact I.ok.noex b o e z
    · exact absurd (Nat.lt_of_lt_of_le (Heap.lt_size e) (Nat.le_trans I.ok.bsz z)) (Nat.lt_irrefl _)
  · rcases List.mem_cons.mp (I.gO b z) with q | q
    · exact (hf b hb).2.1 q
    · exact (hf b hb).2.2.1 q
  · obtain ⟨k1, vx, k2, j, n1, n2⟩ := C8 i x v e1 e2 e3
    obtain ⟨m, hn, hl⟩ := I.loc
    obtain ⟨u, r, l⟩ := hl j x v n1 n2 vx
    refine ⟨u, r, .inr ⟨k1, ?_⟩⟩
    obtain ⟨c', G8⟩ := C6 x k1
    rcases l with ⟨kl, _⟩ | ⟨_, c, ec, z⟩
    · rcases k2 with q | q <;> (rw [kl] at q; cases q)
    · have : c' = c := Option.some.inj ((gy x c' G8).symm.trans ec)
      subst this
      exact ⟨c', G8, z.keeps zl⟩
  · obtain ⟨v, z⟩ := I.cell x c (gy x c e)
    exact ⟨v, z.keeps zl⟩
  · obtain ⟨v, o, ho, hd⟩ := I.cell x c (gy x c e)
    exact G6.free c o ho (I.freeC x c (gy x c e)) fun z => G7 c z x c (gy x c e) rfl
theorem lookup_map2 {c : Str → NameKind → NameKind} : ∀ {names : List (Str × NameKind)} {x : Str}, (names.map fun (p : Str × NameKind) => (p.1, c p.1 p.2)).lookup x = (names.lookup x).map (c x)
  | [], x => rfl
  | (n, k') :: r, x => by
    have ih := @lookup_map2 c r x
    rw [List.map_cons, List.lookup_cons, List.lookup_cons]
    cases hx : x == n with
    | true =>
      have e : x = n := by simpa using hx
      subst e
      rfl
    | false => exact ih
theorem jJ {scope : Scope} {env : Env} (x : Str) : (relabel scope env).names.lookup x = (scope.names.lookup x).map fun k => if (k == .free && env.scope.kind == .function && env.kindOf x == some .cell) = true then .cell else k := by
  have e : (relabel scope env).names = scope.names.map fun p => (p.1, (fun n k => if (k == NameKind.free && env.scope.kind == .function && env.kindOf n == some .cell) = true then NameKind.cell else k) p.1 p.2) := by
    unfold relabel
    dsimp only
    congr 1
    funext p
    obtain ⟨n, k⟩ := p
    dsimp only
    split <;> rfl
  rw [e]
  exact lookup_map2 (c := fun n k => if (k == NameKind.free && env.scope.kind == .function && env.kindOf n == some .cell) = true then NameKind.cell else k)
noncomputable def bf (N : List Str) (sc scope : Scope) (N' : List Str) (tn : Nat) (idx : List Nat) : Prop :=
  scope.kind = .function ∧ (∀ y ∈ scope.names, y.2 ≠ .cell ∧ (y.2 = .local → scope.names.lookup y.1 = some .local) ∧ (y.2 = .free → sc.names.lookup y.1 = some .cell ∨ sc.names.lookup y.1 = some .free)) ∧
    N'.length = tn + idx.length ∧ ∀ p ∈ idx.zip (N'.drop tn), N[p.1]? = some p.2 ∧ scope.names.lookup p.2 = some .free
instance (N : List Str) (sc scope : Scope) (N' : List Str) (tn : Nat) (idx : List Nat) : Decidable (bf N sc scope N' tn idx) := by unfold bf; infer_instance
noncomputable def cE (tn : Nat) (idx : List Nat) (σ : St) : St := List.replicate tn none ++ idx.map fun i => (σ[i]?).join
theorem bf.at {N : List Str} {sc scope : Scope} {N' : List Str} {tn : Nat} {idx : List Nat} (B : bf N sc scope N' tn idx) {σ : St} {i : Nat} {x : Str} {v : V} (h1 : N'[i]? = some x) (h2 : (cE tn idx σ)[i]? = some (some v)) :
    scope.names.lookup x = some .free ∧ ∃ j : Nat, N[j]? = some x ∧ σ[j]? = some (some v) := by
  obtain ⟨_, _, b3, b4⟩ := B
  unfold cE at h2
  by_cases hi : i < tn
  · rw [List.getElem?_append_left (by simpa using hi), List.getElem?_replicate, if_pos hi] at h2
    cases h2
  · rw [List.getElem?_append_right (by simpa using hi), List.length_replicate, List.getElem?_map] at h2
    cases e : idx[i - tn]? with
    | none => rw [e] at h2; cases h2
    | some k =>
      rw [e] at h2
      have h3 : (σ[k]?).join = some v := Option.some.inj h2
      have e2 : (N'.drop tn)[i - tn]? = some x := by
        rw [List.getElem?_drop]
        have : tn + (i - tn) = i := by omega
        rw [this]; exact h1
      have m : (k, x) ∈ idx.zip (N'.drop tn) := by
        refine List.mem_of_getElem? (i := i - tn) ?_
        rw [List.getElem?_zip_eq_some]
        exact ⟨e, e2⟩
      obtain ⟨a, b⟩ := b4 _ m
      refine ⟨b, k, a, ?_⟩
      cases q : σ[k]? with
      | none => rw [q] at h3; cases h3
      | some w => rw [q] at h3; exact congrArg some h3
theorem bf.len {N : List Str} {sc scope : Scope} {N' : List Str} {tn : Nat} {idx : List Nat} (B : bf N sc scope N' tn idx) (σ : St) : (cE tn idx σ).length = N'.length := by
  rw [B.2.2.1]
  unfold cE
  simp
section
variable {X : Cx}
noncomputable def jK (X : Cx) (ifs : List Expr) (tt : TT) : Prop :=
  ∀ (pins : List (Addr × Obj)) (s : Shared) (σ : St) (H : Hp) (Q : Bool → Hp → Prop), Inv X pins σ H s → tt σ H Q →
    wpAny (model X.prog X.w) X.A (forIn ifs true fun c r => if r = true then do let ok ← isTrue c X.env (eval c X.env); pure (ForInStep.yield ok) else pure (ForInStep.yield r)) (TP X pins σ Q) X.xe s
noncomputable def FV : TT := fun _ H Q => Q true H
theorem Au : jK X [] FV := fun _ _ _ H _ I h => wpAny_tests_nil ⟨H, I, h⟩
theorem Av {c : Expr} {tc : TT} (h : PT X c tc) : jK X [c] tc := fun pins s σ H Q I q => wpAny_tests_one (h pins s σ H Q I q)
noncomputable abbrev lX (X : Cx) (N' : List Str) (scope : Scope) (cl : List (Str × Addr)) (C : Addr) (s : Shared) (H : Hp) (fp : List Addr) : Cx := cxBlock X N' (compEnvC scope cl C X.env) X.A X.stack s H fp
noncomputable abbrev Blk (X : Cx) (N' : List Str) (scope : Scope) (P : Cx → Prop) : Prop := ∀ (cl : List (Str × Addr)) (C : Addr) (s : Shared) (H : Hp) (fp : List Addr), P (lX X N' scope cl C s H fp)
noncomputable def zm (J : It) (g : TG) (tt : TT) (te : TE) (D : Addr) (Q : VK) (W : Nat → Nat → St → Hp → Prop) : Prop := ∀ i m τ H, W i m τ H →
  (J.stop i H ∧ Q (.ref D) H) ∨ (J.go i H ∧ ∀ x H', J.yld i H x H' → g x τ H' fun aF H2 => tt aF H2 fun b H3 => if b = true then te aF H3 fun y H4 => ∃ ys m', H4 D = some (.lst ys) ∧ ys.length < sizeLine ∧ m' < m ∧ W (i + 1) m' aF (upd H4 D (.lst (ys ++ [y]))) else ∃ m', m' < m ∧ W (i + 1) m' aF H3)
noncomputable def pw (tn : Nat) (idx : List Nat) (wi : TI) (g : TG) (tt : TT) (te : TE) : TE := fun σ H Q => wi σ H fun J H1 => ∀ D, H1 D = none → ∃ W : Nat → Nat → St → Hp → Prop, (∃ m, W 0 m (cE tn idx σ) (upd H1 D (.lst []))) ∧ zm J g tt te D Q W
theorem oo {pins : List (Addr × Obj)} {σ : St} {H2 : Hp} {s2 : Shared} {tg elt iter : Expr} {ifs : List Expr} {scope : Scope} {pos : Pos} {N' : List Str} {tn : Nat} {idx : List Nat} {g : TG} {tt : TT} {te : TE} {it : Addr} {fp : List Addr} {dQ : Nat → Heap → Prop} {J : It}
    {cl : List (Str × Addr)} {E : Value → Shared → Prop} {RR : Value → Addr → Result → Shared → Prop} {Q : VK}
    (hc : X.calm = true) (B : bf X.N X.env.scope scope N' tn idx)
    (hg : Blk X N' scope fun Y => PG Y tg g) (ht : Blk X N' scope fun Y => jK Y ifs tt) (he : Blk X N' scope fun Y => PE Y elt te)
    (I : Inv X pins σ H2 s2) (T : Turn X.prog X.w X.K tg J fp it dQ) (st : dQ 0 s2.heap) (f2 : ∀ b ∈ fp, eZ X pins H2 b)
    (jb : ∀ n c, cl.lookup n = some c → X.env.cells.lookup n = some c) (k6 : ∀ n, (n, NameKind.free) ∈ scope.names → ∃ c, cl.lookup n = some c)
    (hq : ∀ D, H2 D = none → ∃ W : Nat → Nat → St → Hp → Prop, (∃ m, W 0 m (cE tn idx σ) (upd H2 D (.lst []))) ∧ zm J g tt te D Q W)
    (JY : ∀ D C m s' H', Inv X pins σ H' s' → eZ X pins H' C → s'.heap.Ns C m → Q (.ref D) H' → RR (.ref D) C (.ok .next) s') :
    wpAny (model X.prog X.w) X.A (newList []) (fun acc k7 => wpAny (model X.prog X.w) X.A (newFunctionEnv scope X.env.globals cl [] X.env.qual none .none (some X.env)) (fun C9 IL =>
      codeAny (model X.prog X.w) X.A (.compStart (.ListComp elt [⟨tg, iter, ifs, 0⟩] scope pos) 0 (.ref it) acc { C9 with scope := relabel scope X.env }) (RR acc C9.locals) IL) E k7) E s2 := by
  obtain ⟨b1, b2, b3, b4⟩ := id B
  refine wpAny_newObj_type (wpAny_newFunctionEnv (fun y hy => (b2 y hy).1) (by intro y hy; simp at hy) (fun pR pS lY => ?_) b1)
  dsimp only at pS lY ⊢
  generalize hG : s2.heap.push { cls := .type "list", dict := none, data := .seq ([] : List Value).toArray } = G at pS lY ⊢
  have hC : G.objs.size = s2.heap.objs.size + 1 := by rw [← hG, Heap.size_push]
  have G9 : s2.heap.objs.size ≠ G.objs.size := by rw [hC]; exact Nat.ne_of_lt (Nat.lt_succ_self _)
  have xF : s2.heap.objs.size ≤ G.objs.size := by rw [hC]; exact Nat.le_succ _
  have below : ∀ b, b < s2.heap.objs.size → b ≠ G.objs.size := fun b hb => by rw [hC]; exact Nat.ne_of_lt (Nat.lt_succ_of_lt hb)
  have old : ∀ b o, s2.heap.get? b = some o → pR.get? b = some o := fun b o e => lY.extBut b o (below b (Heap.lt_size e)) (Heap.get?_push_of_some _ (hG ▸ Heap.get?_push_of_some _ e))
  have JZ : pR.get? s2.heap.objs.size = some { cls := .type "list", data := .seq ([] : List Value).toArray } := lY.extBut _ _ G9 (Heap.get?_push_of_some _ (hG ▸ Heap.get?_push_size _ rfl))
  have Ha : H2 s2.heap.objs.size = none := I.hok.fresh (Nat.le_refl _)
  have C7 : upd H2 s2.heap.objs.size (.lst []) G.objs.size = none := by rw [ao (Ne.symm G9)]; exact I.hok.fresh xF
  have IM : da X.prog X.w (upd H2 s2.heap.objs.size (.lst [])) pR := I.hok.laid old (Nat.le_refl _) ⟨Nat.zero_le _, [], 0, .nil, JZ⟩
  have pT : ∀ b ∈ fp, b < s2.heap.objs.size := fun b hb => let ⟨o, e, _⟩ := T.obj _ _ st b hb; Heap.lt_size e
  obtain ⟨W, ⟨m0, w0⟩, turn⟩ := hq s2.heap.objs.size Ha
  have I1 : Inv (lX X N' scope cl G.objs.size s2 H2 fp) [] (cE tn idx σ) (upd H2 s2.heap.objs.size (.lst [])) { s2 with heap := pR, toks := s2.toks + ([] : List (Str × Value)).length } := by
    refine om (g' := s2.gens) (m0 := fun x => ([] : List (Str × Value)).reverse.lookup x) I b1 rfl rfl jb (fun x hx => ?_) (fun z => I.ok.hd z) I.ok.frames (.inl rfl) xF f2 pT (Un.laid old (Nat.le_refl _) Ha) IM C7 old pS (fun i x v e1 e2 e3 => ?_) (B.len σ) I.bare.self
    · have oq : (relabel scope X.env).names.lookup x = some .cell ∨ (relabel scope X.env).names.lookup x = some .free := hx
      rw [jJ] at oq
      cases q : scope.names.lookup x with
      | none => rw [q] at oq; rcases oq with z | z <;> cases z
      | some k0 =>
        have hm := PySem.mem_of_lookup q
        rw [q] at oq
        by_cases hk : k0 = .free
        · subst hk; exact k6 x hm
        · have nk : (k0 == NameKind.free) = false := by simpa using hk
          have nc := (b2 _ hm).1
          simp only [Option.map_some, nk, Bool.false_and, Bool.false_eq_true, if_false] at oq
          rcases oq with z | z
          · exact absurd (Option.some.inj z) nc
          · exact absurd (Option.some.inj z) hk
    · obtain ⟨fr, j, e4, e5⟩ := B.at e1 e2
      have kx := (b2 _ (PySem.mem_of_lookup fr)).2.2 rfl
      refine ⟨?_, .inr kx, kx, j, e4, e5⟩
      show (relabel scope X.env).names.lookup x = some .cell ∨ (relabel scope X.env).names.lookup x = some .free
      rw [jJ, fr]
      simp only [Option.map_some]
      split
      · exact .inl rfl
      · exact .inr rfl
  have stat : ∀ {H' : Hp}, (∀ b ∈ fp, H' b = none) → ∀ b ∈ fp, eZ (lX X N' scope cl G.objs.size s2 H2 fp) [] H' b := fun hn b hb => by
    refine ⟨hn b hb, below b (pT b hb), fun z => ?_, .inl hb, fun x c e => (f2 b hb).2.2.2.2.1 x c (jb x c e), fun p hp => absurd (show p ∈ ([] : List (Addr × Obj)) from hp) (by simp)⟩
    rcases List.mem_cons.mp (I.gO b z) with q | q
    · exact (f2 b hb).2.1 q
    · exact (f2 b hb).2.2.1 q
  have loop : ∀ k7 : Shared, k7 = { s2 with heap := pR, toks := s2.toks + ([] : List (Str × Value)).length } →
      codeAny (model X.prog X.w) X.A (.compLoop (.ListComp elt [⟨tg, iter, ifs, 0⟩] scope pos) 0 (.ref it) (.ref s2.heap.objs.size) (compEnvC scope cl G.objs.size X.env))
        (RR (.ref s2.heap.objs.size) G.objs.size) k7 := by
    rintro k7 rfl
    refine codeAny_loop rfl (fun n s' => ∃ i τ H', Inv (lX X N' scope cl G.objs.size s2 H2 fp) [] τ H' s' ∧ dQ i s'.heap ∧ (∀ b ∈ fp, H' b = none) ∧ W i n τ H') (fun n s hI => ?_) m0
      ⟨0, _, _, I1, T.keep _ _ _ st fun b _ o e => old b o e, fun b hb => by rw [ao (Nat.ne_of_lt (pT b hb))]; exact (f2 b hb).1, w0⟩
    show wpAny _ X.A ((compTurn (.ListComp elt [⟨tg, iter, ifs, 0⟩] scope pos) 0 (.ref it) (.ref s2.heap.objs.size) (compEnvC scope cl G.objs.size X.env)).onRaise (fun x => do noteFrame x (compEnvC scope cl G.objs.size X.env); theTreesLotGoes x)) _ _ s
    refine wpAny_noted ?_
    rw [compTurn_list]
    obtain ⟨i, τ, H3, I3, nW, uZ, w3⟩ := hI
    rcases turn i n τ H3 w3 with ⟨stop, qn⟩ | ⟨go, step⟩
    · refine wpAny_bind (wpAny_standAt (wpAny_bind (wpAny_mono (T.done (lX X N' scope cl G.objs.size s2 H2 fp) rfl rfl rfl hc i [] s τ H3 (fun _ _ => False) I3 (stat uZ) nW stop) (fun r s4 ⟨hr, I4⟩ => ?_) fun _ _ z => z.elim)))
      subst hr
      refine wpAny_pure ?_
      have J2 : Inv X pins σ H3 s4 := I.o7 I4.os I4.base I4.hok I4.bare fun b hb => ⟨(f2 b hb).2.2.2.1, (f2 b hb).2.1, (f2 b hb).2.2.2.2.1, (f2 b hb).2.2.2.2.2⟩
      obtain ⟨mm, hm, _⟩ := I4.loc
      exact JY _ _ mm s4 H3 J2 (I.tj xF I4.free) hm qn
    · refine wpAny_bind (wpAny_standAt (wpAny_bind (wpAny_mono (T.item (lX X N' scope cl G.objs.size s2 H2 fp) rfl rfl rfl hc i [] s τ H3 (fun _ _ => False) I3 (stat uZ) nW go) (fun r s4 ⟨u, hr, h4⟩ => ?_) fun _ _ z => z.elim)))
      subst hr
      refine wpAny_bind (wpAny_mono h4 (fun _ s5 ⟨x, H5, I5, r5, y5, jF, u0⟩ => ?_) fun _ _ z => z.elim)
      have u3 := I5.pinned (stat u0) (T.obj _ _ jF)
      have again : ∀ {pU : St} {H7 : Hp} {s7 : Shared}, Inv (lX X N' scope cl G.objs.size s2 H2 fp) ([] ++ iN fp s5.heap) pU H7 s7 → (∃ m', m' < n ∧ W (i + 1) m' pU H7) →
          ∃ m, m < n ∧ ∃ i τ H', Inv (lX X N' scope cl G.objs.size s2 H2 fp) [] τ H' s7 ∧ dQ i s7.heap ∧ (∀ b ∈ fp, H' b = none) ∧ W i m τ H' := fun {pU H7 s7} I7 n7 => by
        obtain ⟨m', hm, w7⟩ := n7
        refine ⟨m', hm, i + 1, pU, H7, I7.e6, T.keep _ _ _ jF fun b hb o e => (I7.pin (b, o) (List.mem_append_right _ (List.mem_append_right _ (ef hb e)))).1, fun b hb => ?_, w7⟩
        obtain ⟨o, e, d⟩ := T.obj _ _ jF b hb
        exact (I7.pin (b, o) (List.mem_append_right _ (List.mem_append_right _ (ef hb e)))).2.1
      refine wpAny_bind (wpAny_mono (hg cl G.objs.size s2 H2 fp _ s5 τ H5 x u _ u3 r5 (step x H5 y5)) (fun _ s6 ⟨lZ, H6, I6, q6⟩ => ?_) fun _ _ z => z.elim)
      refine wpAny_bind (wpAny_mono (ht cl G.objs.size s2 H2 fp _ s6 lZ H6 _ I6 q6) (fun ok s7 ⟨H7, I7, q7⟩ => ?_) fun _ _ z => z.elim)
      cases ok with
      | false => exact wpAny_pure ⟨rfl, again I7 q7⟩
      | true =>
        refine wpAny_bind (wpAny_bind (wpAny_mono (he cl G.objs.size s2 H2 fp _ s7 lZ H7 _ I7 q7) (fun yv s8 ⟨y, H8, I8, r8, q8⟩ => ?_) fun _ _ z => z.elim))
        obtain ⟨ys, m', hD, gw, pV, w8⟩ := q8
        refine wpAny_bind (wpAny_mono (oh (X := lX X N' scope cl G.objs.size s2 H2 fp) _ s8 lZ H8 (.ref s2.heap.objs.size) [y] (.ref s2.heap.objs.size) [yv] (fun v H9 => v = .aC ∧ H9 = upd H8 s2.heap.objs.size (.lst (ys ++ [y]))) I8 rfl (.cons r8 .nil) ⟨_, ys, y, rfl, rfl, hD, gw, rfl, rfl⟩) (fun rv s9 ⟨v9, H9, I9, _, _, e9⟩ => ?_) fun _ _ z => z.elim)
        subst e9
        exact wpAny_pure (wpAny_pure ⟨rfl, again I9 ⟨m', pV, w8⟩⟩)
  exact codeAny_compStart_list (loop _ rfl) (T.self _ 0 _ _ _ (T.keep _ _ _ st fun b _ o e => old b o e) (loop _ rfl))
variable {tg elt iter : Expr} {ifs : List Expr} {scope : Scope} {pos : Pos} {N' : List Str} {tn : Nat} {idx : List Nat} {wi : TI} {g : TG} {tt : TT} {te : TE}
theorem eZ.turn {pins : List (Addr × Obj)} {σ : St} {H : Hp} {s : Shared} {C : Addr} {h' : Heap} (f : eZ X pins H C) (I : Inv X pins σ H s) (hs : Heap.SameBut C s.heap h') : Inv X pins σ H { s with heap := h' } :=
  I.turned (t' := s.toks) (fun b o hb e => (hs.2 b hb).trans e) f.1 f.2.1 f.2.2.2.1 f.2.2.2.2.1 f.2.2.2.2.2
theorem rE (hc : X.calm = true) (B : bf X.N X.env.scope scope N' tn idx) (hi : PI X tg iter wi)
    (hg : Blk X N' scope fun Y => PG Y tg g) (ht : Blk X N' scope fun Y => jK Y ifs tt) (he : Blk X N' scope fun Y => PE Y elt te)
    (hs : ∀ x, foldedSetIterable iter X.env x = pure x := by intro _; rfl) : PE X (.ListComp elt [⟨tg, iter, ifs, 0⟩] scope pos) (pw tn idx wi g tt te) := by
  refine ⟨?_⟩
  intro pins s σ H Q I h
  obtain ⟨cl, l0, jb, k6⟩ := ja (scope := scope) (env := X.env) fun n hn => I.ok.has n ((B.2.1 _ hn).2.2 rfl)
  rw [eval_ListComp]
  refine wpAny_comprehension_free (use := none) rfl hs l0 B.1 (fun y hy => (B.2.1 y hy).2.1) (wpAny_mono (hi pins s σ H _ I h) (fun xv s1 h1 => wpAny_mono h1 (fun uV s2 h2 => ?_) fun _ _ z => z) fun _ _ z => z)
  obtain ⟨it, fp, dQ, J, H2, e, I2, T, pJ, f2, q2⟩ := h2
  subst e
  refine oo (RR := fun acc C => compPost (model X.prog X.w) X.A X.xe none (EP X pins σ Q) acc C) hc B hg ht he I2 T pJ f2 jb k6 q2 fun D C m s' H' J2 fC hm q => ?_
  exact ⟨m, hm, fun h' sD => ⟨.ref D, H', fC.turn J2 sD, rfl, q⟩⟩
theorem md {i : Nat} {y : Str} {py jL : Pos} (hN : X.N.Nodup) (dR : X.N[i]? = some y) (hy : X.env.scope.names.lookup y = some .local) (hc : X.calm = true) (B : bf X.N X.env.scope scope N' tn idx) (hi : PI X tg iter wi)
    (hg : Blk X N' scope fun Y => PG Y tg g) (ht : Blk X N' scope fun Y => jK Y ifs tt) (he : Blk X N' scope fun Y => PE Y elt te)
    (vr : swapsWith (.ListComp elt [⟨tg, iter, ifs, 0⟩] scope pos) (some (.Name y py)) jL.line X.env = pure true := by rfl)
    (hs : ∀ x, foldedSetIterable iter X.env x = pure x := by intro _; rfl) : PS X (.Assign [.Name y py] (.ListComp elt [⟨tg, iter, ifs, 0⟩] scope pos) jL) (pI (pw tn idx wi g tt te) (o9 i)) := by
  refine ⟨?_⟩
  intro pins s σ H D I h
  obtain ⟨cl, l0, jb, k6⟩ := ja (scope := scope) (env := X.env) fun n hn => I.ok.has n ((B.2.1 _ hn).2.2 rfl)
  rw [exec_Assign_Name_used _ _ _ _ vr]
  refine wpAny_bind (wpAny_standAt (wpAny_bind ?_))
  show wpAny _ X.A (do let _ ← comprehension (.ListComp elt [⟨tg, iter, ifs, 0⟩] scope pos) scope X.env _ (newList []) false (eval iter X.env) (some (assign (.Name y py) X.env))) _ _ s
  refine wpAny_bind (wpAny_mono (wpAny_comprehension_free (use := some (assign (.Name y py) X.env)) (Q := fun _ s' => SP X pins D .next s') rfl hs l0 B.1 (fun y hy => (B.2.1 y hy).2.1)
    (wpAny_mono (hi pins s σ H _ I h) (fun xv s1 h1 => wpAny_mono h1 (fun uV s2 h2 => ?_) fun _ _ z => z) fun _ _ z => z)) (fun _ s' hq => wpAny_pure (wpAny_pure hq)) fun _ _ z => z)
  obtain ⟨it, fp, dQ, J, H2, e, I2, T, pJ, f2, q2⟩ := h2
  subst e
  refine oo (RR := fun acc C => compPost (model X.prog X.w) X.A X.xe (some (assign (.Name y py) X.env)) (fun _ s' => SP X pins D .next s') acc C) hc B hg ht he I2 T pJ f2 jb k6 q2 fun E C m s' H' J2 fC hm q => ?_
  show wpAny _ X.A (assign (.Name y py) X.env (.ref E)) _ _ s'
  refine wpAny_assign_Name (store_ok2 J2 hN dR (.inl hy) (v := .ref E) rfl (fun s3 J3 ⟨a, kO, ha⟩ => ?_) (.inr hy))
  have iQ : C ≠ a := by
    rcases ha with z | z
    · rw [z]; exact fC.2.1
    · exact fun w => fC.2.2.2.2.1 _ _ z w.symm
  exact ⟨m, hm.sameBut kO iQ, fun h' sD => ⟨_, H', fC.turn J3 sD, q⟩⟩
end
noncomputable def Tb (P : Addr) (H : Hp) : Prop := ∃ ps, H P = some (.b6 ps) ∧ TriplesOk ps.toList
section
variable {X : Cx} {pins : List (Addr × Obj)} {σ : St} {H : Hp} {s : Shared} {P : Addr} {ps more : Array Value} {h' : Heap}
theorem Inv.grown (I : Inv X pins σ H s) (hP : H P = some (.b6 ps)) (k : ∀ b o, b ≠ P → s.heap.get? b = some o → h'.get? b = some o) (n : h'.get? P = some { cls := .none, data := .fields (ps ++ more) }) (t' : Nat) :
    Inv X pins σ (upd H P (.b6 (ps ++ more))) { s with heap := h', toks := t' } := by
  have ne : ∀ b u, H b = some u → u ≠ .b6 ps → b ≠ P := fun b u e d => Fu e hP d
  have nn : ∀ b, H b = none → b ≠ P := fun b e z => by rw [z, hP] at e; cases e
  refine I.un ⟨fun b o e q _ _ => k b o (nn b q) e, fun b o e q _ _ => ⟨o.slots, k b o (nn b q) e⟩, fun b o e q _ => by rw [ao (nn b q)]; exact q, fun b o e _ => ?_, fun b xs e => by rw [ao (ne b _ e (by intro z; cases z))]; exact e,
    fun b o u e => by rw [ao (ne b _ e (by intro z; cases z))]; exact e, fun b qs e => ?_⟩ fun b u e => ?_
  · by_cases hb : b = P
    · subst hb; exact ⟨_, n⟩
    · exact ⟨o, k b o hb e⟩
  · by_cases hb : b = P
    · subst hb
      rw [hP] at e; cases e
      exact ⟨more, aP⟩
    · exact ⟨#[], by rw [ao hb, e]; simp⟩
  · by_cases hb : b = P
    · subst hb
      rw [aP] at e; cases e
      exact n
    · rw [ao hb] at e
      refine (I.hok b u e).eJ (fun c v hc q => k c v ?_ q) (fun c q => ?_) fun c xs q => ?_
      · rcases hc with z | z
        · rw [z]; exact hb
        · exact ne c _ z (by intro w; cases w)
      · rw [ao (ne c _ q (by intro w; cases w))]; exact q
      · rw [ao (ne c _ q (by intro w; cases w))]; exact q
theorem m6 {c : Addr} {pos : Pos} {qn : Str} {scope : Scope} {Q : Value → Shared → Prop} {A : Around} {E : Value → Shared → Prop} (I : Inv X pins σ H s) (hc : X.env.code = .ref c) (hd : PySem.W.CodeHd X.base c P) (hP : H P = some (.b6 ps)) (ht : TriplesOk ps.toList)
    (h : ∀ code iR s', TriplesOk iR.toList → Inv X pins σ (upd H P (.b6 iR)) s' → (∀ b o, b ≠ P → s.heap.get? b = some o → s'.heap.get? b = some o) → s'.gens = s.gens → Q code s') : wpAny (model X.prog X.w) A (genexprCode X.env pos qn scope) Q E s := by
  have Hb : s.heap.get? P = some (PySem.W.tabObj ps) := I.hok P _ hP
  have y3 := hd.keeps I.bk
  have ic := y3.code Hb ht
  cases q : codeAmong pos ps.toList with
  | some c' =>
    refine wpAny_genexprCode_hit hc ic q (h c' ps s ht ?_ (fun _ _ _ e => e) rfl)
    have e : upd H P (.b6 ps) = H := by
      funext b
      by_cases hb : b = P
      · subst hb; rw [aP, hP]
      · rw [ao hb]
    rw [e]; exact I
  | none =>
    refine wpAny_genexprCodeX hc ic (y3.tab Hb) q fun c' h' tk ex h1 h2 LZ _ ta _ => ?_
    obtain ⟨_, zo⟩ := ta
    have tr : TriplesOk (ps ++ #[rawInt pos.line, rawInt pos.col, Value.ref c']).toList := by
      rw [Array.toList_append]
      exact TriplesOk_snoc _ _ _ _ ht
    exact h _ _ _ tr (I.grown hP (fun b o hb e => ex b o hb e) zo tk) (fun b o hb e => ex b o hb e) rfl
end
noncomputable def k8 (s cc : Shared) : Prop := cc.heap = s.heap ∧ cc.os = s.os ∧ Gn s.gens.size cc.gens
theorem Inv.m7 {X : Cx} {pins : List (Addr × Obj)} {σ : St} {H : Hp} {s cc : Shared} (I : Inv X pins σ H s) (o : k8 s cc) : Inv X pins σ H cc := by
  obtain ⟨h, g, d, t, os⟩ := s
  obtain ⟨h', g', d', t', zg⟩ := cc
  obtain ⟨e1, e2, e3⟩ := o
  cases e1
  cases e2
  exact ⟨I.ok, I.os, I.bare.trans e3, I.base, I.loc, I.cell, I.free, I.freeC, I.pin, I.hok, I.len⟩
section
variable {Y : Cx} {A2 : Around} {tg elt iter : Expr} {ifs : List Expr} {scope : Scope} {pos : Pos} {it : Addr} {fp : List Addr} {dQ : Nat → Heap → Prop} {J : It} {g : TG} {tt : TT} {te : TE} {pp : List (Addr × Obj)} {R : GenEnd} {Yp : Protocol}
noncomputable def Dc (J : It) (g : TG) (tt : TT) (te : TE) (stopAt : Bool) (Z : Bool → Hp → Prop) (W : Nat → Nat → St → Hp → Prop) : Prop := ∀ i m τ H, W i m τ H →
  (J.stop i H ∧ Z (!stopAt) H) ∨ (J.go i H ∧ ∀ x H', J.yld i H x H' → g x τ H' fun aF H2 => tt aF H2 fun b H3 => if b = true then te aF H3 fun y H4 => ∃ c, y = .bl c ∧ (if c = stopAt then Z stopAt H4 else ∃ m', m' < m ∧ W (i + 1) m' aF H4) else ∃ m', m' < m ∧ W (i + 1) m' aF H3)
theorem xG (hA : Y.A = A2.over (.compLoop (.GeneratorExp elt [⟨tg, iter, ifs, 0⟩] scope pos) 0 (.ref it) .none Y.env) []) (Dd : Y.xe = fun _ _ => False) (hc : Y.calm = true) (ot : Y.env.scope.isCoroutine = false)
    (T : Turn Y.prog Y.w Y.K tg J fp it dQ) (hg : PG Y tg g) (ht : jK Y ifs tt) (he : PE Y elt te) (stat : ∀ {H' : Hp}, (∀ b ∈ fp, H' b = none) → ∀ b ∈ fp, eZ Y pp H' b)
    {W : Nat → Nat → St → Hp → Prop} {Z : Bool → Hp → Prop} {stopAt : Bool} (turn : Dc J g tt te stopAt Z W)
    (hR : ∀ n s₀ aw τ H, Inv Y pp τ H aw → Z (!stopAt) H → R n s₀ (.ok .next) aw)
    (hY : ∀ n s₀ s pW c τ H, Inv Y pp τ H s → (c = stopAt → Z stopAt H) → (c ≠ stopAt → ∀ cc, k8 s cc → pW (.send .none) cc) → Yp n s₀ (.bool c) s pW) :
    ∀ (m n i : Nat) (τ : St) (H : Hp) (s s₀ : Shared), m < n → W i m τ H → Inv Y pp τ H s → dQ i s.heap → (∀ b ∈ fp, H b = none) →
      Seg (model Y.prog Y.w) A2 R Yp n s₀ (.compLoop (.GeneratorExp elt [⟨tg, iter, ifs, 0⟩] scope pos) 0 (.ref it) .none Y.env)
        ((model Y.prog Y.w).den (.compLoop (.GeneratorExp elt [⟨tg, iter, ifs, 0⟩] scope pos) 0 (.ref it) .none Y.env)) [] s := by
  intro m
  induction m using Nat.strongRecOn with
  | ind m ih =>
    intro n i τ H s s₀ L6 w I st fr
    show Seg _ A2 _ _ _ s₀ _ ((compTurn (.GeneratorExp elt [⟨tg, iter, ifs, 0⟩] scope pos) 0 (.ref it) .none Y.env).onRaise (leaving Y.env)) [] s
    rw [compTurn_gen, Sem.onRaise_eq_wrap]
    rcases turn i m τ H w with ⟨stop, qn⟩ | ⟨go, step⟩
    · refine seg_bind_wrap (wpAny_standAt ?_)
      have d := T.done Y rfl rfl rfl hc i pp s τ H (fun _ _ => False) I (stat fr) st stop
      rw [hA] at d
      refine seg_bind_wrap (wpAny_mono d (fun r s1 ⟨hr, I1⟩ => ?_) fun _ _ z => z.elim)
      subst hr
      exact seg_end (.ok .next) (hR _ _ _ _ _ I1 qn)
    · refine seg_bind_wrap (wpAny_standAt ?_)
      have d := T.item Y rfl rfl rfl hc i pp s τ H (fun _ _ => False) I (stat fr) st go
      rw [hA] at d
      refine seg_bind_wrap (wpAny_mono d (fun r s4 ⟨u, hr, h4⟩ => ?_) fun _ _ z => z.elim)
      subst hr
      refine seg_bind_wrap (wpAny_mono h4 (fun _ s5 ⟨x, H5, I5, r5, y5, jF, u0⟩ => ?_) fun _ _ z => z.elim)
      have u3 := I5.pinned (stat u0) (T.obj _ _ jF)
      have back : ∀ {pU : St} {H7 : Hp} {s7 : Shared}, Inv Y (pp ++ iN fp s5.heap) pU H7 s7 → dQ (i + 1) s7.heap ∧ ∀ b ∈ fp, H7 b = none := fun {pU H7 s7} I7 => by
        refine ⟨T.keep _ _ _ jF fun b hb o e => (I7.pin (b, o) (List.mem_append_right _ (List.mem_append_right _ (ef hb e)))).1, fun b hb => ?_⟩
        obtain ⟨o, e, d⟩ := T.obj _ _ jF b hb
        exact (I7.pin (b, o) (List.mem_append_right _ (List.mem_append_right _ (ef hb e)))).2.1
      have d2 := hg _ s5 τ H5 x u _ u3 r5 (step x H5 y5)
      rw [hA, Dd] at d2
      refine seg_bind_wrap (wpAny_mono d2 (fun _ s6 ⟨lZ, H6, I6, q6⟩ => ?_) fun _ _ z => z.elim)
      have d3 := ht _ s6 lZ H6 _ I6 q6
      rw [hA, Dd] at d3
      refine seg_bind_wrap (wpAny_mono d3 (fun ok s7 ⟨H7, I7, q7⟩ => ?_) fun _ _ z => z.elim)
      have hy : ∀ v, yieldOut Y.env v = yieldValue v := fun v => by simp only [yieldOut, ot, Bool.false_eq_true, if_false]
      cases ok with
      | false =>
        simp only [Bool.false_eq_true, if_false] at q7 ⊢
        obtain ⟨m', pV, w7⟩ := q7
        exact seg_again rfl (ih m' pV n (i + 1) lZ H7 s7 s₀ (by omega) w7 I7.e6 (back I7).1 (back I7).2)
      | true =>
        simp only [if_true] at q7 ⊢
        simp only [hy]
        rw [Sem.bind_eq_wrap', Sem.bind_eq_wrap', Sem.wrap_wrap, Sem.wrap_wrap]
        have d4 := he _ s7 lZ H7 _ I7 q7
        rw [hA, Dd] at d4
        refine seg_wrap (wpAny_mono d4 (fun yv s8 ⟨y, H8, I8, r8, q8⟩ => ?_) fun _ _ z => z.elim)
        obtain ⟨c, ey, q8⟩ := q8
        subst ey
        cases (show yv = Value.bool c from r8)
        obtain ⟨n, rfl⟩ : ∃ n', n = n' + 1 := ⟨n - 1, by omega⟩
        refine seg_at (seg_yield rfl rfl rfl (hY _ _ _ _ c lZ H8 I8.e6 (fun e => by rw [if_pos e] at q8; exact q8) fun e cc ok => ?_))
        rw [if_neg e] at q8
        obtain ⟨m', pV, w8⟩ := q8
        have I9 := I8.m7 ok
        exact seg_again rfl (ih m' pV n (i + 1) lZ H8 cc cc (by omega) w8 I9.e6 (back I9).1 (back I9).2)
end
noncomputable abbrev dn (elt tg iter : Expr) (ifs : List Expr) (scope : Scope) (pos : Pos) : Expr := .GeneratorExp elt [⟨tg, iter, ifs, 0⟩] scope pos
noncomputable abbrev De (X : Cx) (N' : List Str) (scope : Scope) (cl : List (Str × Addr)) (C : Addr) (code : Value) (A' : Around) (s : Shared) (H : Hp) (fp : List Addr) : Cx :=
  cxBlock X N' (genEnv scope cl C code builtinsNs X.env) A' (genEnv scope cl C code builtinsNs X.env :: X.stack) s H fp
noncomputable abbrev k9 (X : Cx) (N' : List Str) (scope : Scope) (k : Nat) (P : Cx → Prop) : Prop := ∀ (cl : List (Str × Addr)) (C : Addr) (code : Value) (A' : Around) (s : Shared) (H : Hp) (fp : List Addr), b7 k A' → P (De X N' scope cl C code A' s H fp)
structure IP (X : Cx) (pins : List (Addr × Obj)) (σ : St) (N' : List Str) (scope : Scope) (tn : Nat) (idx : List Nat) (k : Nat) (elt tg iter : Expr) (ifs : List Expr) (pos : Pos) (J : It) (H3 : Hp) (a : Addr) (s5 : Shared)
    (Y : Cx) (it : Addr) (fp : List Addr) (dQ : Nat → Heap → Prop) (g : Nat) (pp : List (Addr × Obj)) : Prop where
  inv : Inv Y pp (cE tn idx σ) H3 s5
  isg : ∀ {τ : St} {H' : Hp} {s' : Shared}, Inv Y pp τ H' s' → s'.heap.IsGen a g
  st : s5.gens[g]? = some (.fresh (.compStart (dn elt tg iter ifs scope pos) 0 (.ref it) .none Y.env))
  T : Turn Y.prog Y.w Y.K tg J fp it dQ
  tn0 : dQ 0 s5.heap
  fr : ∀ b ∈ fp, H3 b = none
  stat : ∀ {H' : Hp}, (∀ b ∈ fp, H' b = none) → ∀ b ∈ fp, eZ Y pp H' b
  out : ∀ {τ : St} {H' : Hp} {s' : Shared}, Inv Y pp τ H' s' → Inv X pins σ H' s'
  A : Y.A = X.A.in4.in1.over (.compLoop (dn elt tg iter ifs scope pos) 0 (.ref it) .none Y.env) []
  xe : Y.xe = fun _ _ => False
  calm : Y.calm = true
  co : Y.env.scope.isCoroutine = false
  gsz : ∀ {τ : St} {H' : Hp} {s' : Shared}, Inv Y pp τ H' s' → g < s'.gens.size
  blk : ∀ P : Cx → Prop, k9 X N' scope k P → P Y
  prog : Y.prog = X.prog
  w : Y.w = X.w
section
variable {X : Cx} {tg elt iter : Expr} {ifs : List Expr} {scope : Scope} {pos : Pos} {N' : List Str} {tn : Nat} {idx : List Nat} {wi : TI} {g : TG} {tt : TT} {te : TE} {c P : Addr} {k : Nat}
noncomputable def Dg (P : Addr) (wi : TI) (R : It → Hp → Prop) : St → Hp → Prop := fun σ H => wi σ H fun J H1 => Tb P H1 ∧ ∀ ps, TriplesOk ps.toList → R J (upd H1 P (.b6 ps))
theorem xH {pins : List (Addr × Obj)} {s : Shared} {σ : St} {H : Hp} {QQ : Value → Shared → Prop} {R : It → Hp → Prop} (hr : b7 (k + 1) X.A) (hc : X.calm = true) (B : bf X.N X.env.scope scope N' tn idx)
    (h0 : scope.names.lookup (".0" : Str) = some .local) (ot : scope.isCoroutine = false) (me : X.env.code = .ref c) (hd : PySem.W.CodeHd X.base c P) (ig : ∃ bm ob, BMod X.base mainGlobals X.mg bm ob)
    (hi : PI X tg iter wi) (hs : ∀ x, genFold iter X.env x = pure x) (I : Inv X pins σ H s) (h : Dg P wi R σ H)
    (q : ∀ J H3 a s5 Y it fp dQ gn pp, IP X pins σ N' scope tn idx k elt tg iter ifs pos J H3 a s5 Y it fp dQ gn pp → R J H3 → QQ (.ref a) s5) :
    wpAny (model X.prog X.w) X.A (eval (dn elt tg iter ifs scope pos) X.env) QQ X.xe s := by
  obtain ⟨cl, l0, jb, k6⟩ := ja (scope := scope) (env := X.env) fun n hn => I.ok.has n ((B.2.1 _ hn).2.2 rfl)
  refine wpAny_GeneratorExp_make ot l0 (fun y hy => (B.2.1 y hy).1) h0 B.1 hr.depth (thn (hi pins s σ H _ I h) fun xv s1 h1 => thn h1 fun uV s2 h2 => ?_) hs
  obtain ⟨it, fp, dQ, J, H2, e, I2, T, pJ, f2, ⟨ps, hP, vt⟩, q2⟩ := h2
  subst e
  refine ⟨I2.nolimit, m6 I2 me hd hP vt fun code iR s3 J0 I3 kp L7 => ?_⟩
  obtain ⟨bm, ob, bmod⟩ := ig
  have pX := bmod.keeps I3.bk
  refine wpAny_builtinsFor (by rw [I3.ok.glob]; exact pX.ns) pX.name pX.ne pX.obj pX.cls pX.dict pX.data ?_
  intro h' uM sD
  have Hc : ∀ b ∈ fp, b ≠ P := fun b hb z => by have := (f2 b hb).1; rw [z, hP] at this; cases this
  have nW : dQ 0 s3.heap := T.keep _ _ _ pJ fun b hb o e => kp b o (Hc b hb) e
  have pT : ∀ b ∈ fp, b < s3.heap.objs.size := fun b hb => let ⟨o, e, _⟩ := T.obj _ _ nW b hb; Heap.lt_size e
  have f3 : ∀ b ∈ fp, eZ X pins (upd H2 P (.b6 iR)) b := fun b hb => ⟨by rw [ao (Hc b hb)]; exact (f2 b hb).1, (f2 b hb).2⟩
  have gw : h'.objs.size = s3.heap.objs.size + 1 := by rw [sD.1, Heap.size_push]
  have FW : ∀ b o, s3.heap.get? b = some o → h'.get? b = some o := fun b o e => sD.extBut b o (Nat.ne_of_lt (Heap.lt_size e)) (Heap.get?_push_of_some _ e)
  have Hd : Gn s3.gens.size (s3.gens.push (.fresh (.compStart (dn elt tg iter ifs scope pos) 0 (.ref it) .none (genEnv scope cl s3.heap.objs.size code builtinsNs X.env)))) := ⟨AllBare.push I3.bare.1 rfl, by rw [Array.size_push]; exact Nat.le_succ _⟩
  have He : Inv X pins σ (upd H2 P (.b6 iR)) { s3 with gens := s3.gens.push (.fresh (.compStart (dn elt tg iter ifs scope pos) 0 (.ref it) .none (genEnv scope cl s3.heap.objs.size code builtinsNs X.env))) } := I3.m7 ⟨rfl, rfl, Hd⟩
  have hA : (X.A.in4.in1.over (.compLoop (dn elt tg iter ifs scope pos) 0 (.ref it) .none (genEnv scope cl s3.heap.objs.size code builtinsNs X.env)) []).frames = some (genEnv scope cl s3.heap.objs.size code builtinsNs X.env :: X.stack) := by
    show pushEnvs [_] (pushEnvs [] X.A.frames) = _
    rw [I.ok.frames]; rfl
  have mh : b7 k (X.A.in4.in1.over (.compLoop (dn elt tg iter ifs scope pos) 0 (.ref it) .none (genEnv scope cl s3.heap.objs.size code builtinsNs X.env)) []) := by
    refine ⟨hr.hd, ?_, ?_⟩
    · show X.A.depth + 0 + 1 + 3 * k + 5 < recursionLimit
      have := hr.dp
      omega
    · show X.A.units + 1 + 1 + 1 + 1 + 1 + 0 + 3 + 16 * k + 200 < cLine
      have := hr.un
      omega
  generalize pY : ({ cls := .type "generator", data := .fields #[.int s3.gens.size 0, .str "<genexpr>" (s3.toks + 1), .str (X.env.qual ++ "<genexpr>") (s3.toks + 1 + 1)] } : Obj) = kP
  have px : ∀ b o, s3.heap.get? b = some o → (h'.push kP).get? b = some o := fun b o e => Heap.get?_push_of_some _ (FW b o e)
  have IQ : kP.isFreed = false := by rw [← pY]; rfl
  have J4 : (h'.push kP).get? h'.objs.size = some kP := Heap.get?_push_size _ IQ
  have J5 : h'.objs.size ≠ s3.heap.objs.size := by rw [gw]; exact Nat.succ_ne_self _
  have J6 : upd H2 P (.b6 iR) h'.objs.size = none := I3.hok.fresh (by rw [gw]; exact Nat.le_succ _)
  have I5 := om (X := X) (N' := N') (A' := X.A.in4.in1.over (.compLoop (dn elt tg iter ifs scope pos) 0 (.ref it) .none (genEnv scope cl s3.heap.objs.size code builtinsNs X.env)) []) (env' := genEnv scope cl s3.heap.objs.size code builtinsNs X.env) (stack' := genEnv scope cl s3.heap.objs.size code builtinsNs X.env :: X.stack) (ex := fp) (h1 := h'.push kP) (m0 := fun y => if y = ".0" then some (.ref it) else none)
    (g' := s3.gens.push (.fresh (.compStart (dn elt tg iter ifs scope pos) 0 (.ref it) .none (genEnv scope cl s3.heap.objs.size code builtinsNs X.env)))) (tk := s3.toks + 1 + 1 + 1) (aJ := cE tn idx σ) He B.1 rfl I3.ok.blt.symm jb (fun x hx => by
      have oq : scope.names.lookup x = some .cell ∨ scope.names.lookup x = some .free := hx
      rcases oq with z | z
      · exact absurd rfl ((B.2.1 _ (PySem.mem_of_lookup z)).1)
      · exact k6 x (PySem.mem_of_lookup z)) (fun z => I.ok.hd z) hA (.inr ⟨rfl, rfl⟩) (Nat.le_refl _) f3 pT (Un.kept px) (I3.hok.kept px) (I3.hok.fresh (Nat.le_refl _)) px (uM.push _) (fun i x v e1 e2 e3 => by
      obtain ⟨fr, j, e4, e5⟩ := B.at e1 e2
      have kx := (B.2.1 _ (PySem.mem_of_lookup fr)).2.2 rfl
      exact ⟨.inr fr, .inr kx, kx, j, e4, e5⟩) (B.len σ) (Gn.self Hd)
  have J7 : h'.objs.size ∉ eE X.stack := fun z => by
    rcases List.mem_cons.mp (I3.gO _ z) with q | q
    · exact Nat.ne_of_gt (Nat.lt_of_lt_of_le I3.lt (by rw [gw]; exact Nat.le_succ _)) q
    · exact I3.BU (by rw [gw]; exact Nat.le_succ _) q
  have o8 : ∀ v, kP.data ≠ .cell v := by rw [← pY]; intro v z; cases z
  have I6 := I5.mZ (pins' := [(h'.objs.size, kP)]) (fun p hp => by
    rcases List.mem_singleton.mp hp with rfl
    exact ⟨J4, J6, J5, J7, o8⟩)
  refine q J _ _ _ (De X N' scope cl s3.heap.objs.size code _ _ _ fp) it fp dQ s3.gens.size [(h'.objs.size, kP)] ⟨I6, fun {τ H' s'} J' => ?_, ?_, T, T.keep _ _ _ nW fun b _ o e => px b o e, fun b hb => (f3 b hb).1, fun {H'} hn b hb => ?_, fun {τ H' s'} J' => ?_, rfl, rfl, hc, ot, fun {τ H' s'} J' => ?_, fun Pp hb => hb cl _ code _ _ _ fp mh, rfl, rfl⟩ (q2 iR J0)
  · have := (J'.pin (h'.objs.size, kP) (List.mem_append_right _ (List.mem_singleton.mpr rfl))).1
    exact ⟨kP, _, _, this, by rw [← pY], by rw [← pY], by rw [← pY]⟩
  · exact Array.getElem?_push_size ..
  · refine ⟨hn b hb, Nat.ne_of_lt (pT b hb), fun z => ?_, .inl hb, fun x c e => (f2 b hb).2.2.2.2.1 x c (jb x c e), fun p hp z => ?_⟩
    · rcases List.mem_cons.mp (I2.gO b z) with q | q
      · exact (f2 b hb).2.1 q
      · exact (f2 b hb).2.2.1 q
    · rcases List.mem_singleton.mp hp with rfl
      have z' : h'.objs.size = b := z
      have := pT b hb
      rw [← z', gw] at this
      exact absurd this (Nat.not_lt.mpr (Nat.le_succ _))
  · exact He.o7 J'.os J'.base J'.hok J'.bare fun b hb => ⟨(f3 b hb).2.2.2.1, (f3 b hb).2.1, (f3 b hb).2.2.2.2.1, (f3 b hb).2.2.2.2.2⟩
  · have := J'.bare.2
    have e : (De X N' scope cl s3.heap.objs.size code (X.A.in4.in1.over (.compLoop (dn elt tg iter ifs scope pos) 0 (.ref it) .none (genEnv scope cl s3.heap.objs.size code builtinsNs X.env)) []) { s3 with gens := s3.gens.push (.fresh (.compStart (dn elt tg iter ifs scope pos) 0 (.ref it) .none (genEnv scope cl s3.heap.objs.size code builtinsNs X.env))) } (upd H2 P (.b6 iR)) fp).s₀.gens.size = s3.gens.size + 1 := by
      show (s3.gens.push _).size = _
      rw [Array.size_push]
    rw [e] at this
    omega
theorem xI {prog : Program} {w : World} {A : Around} {a : Addr} {R' : Result → Shared → Prop} (In : Nat → Shared → Prop)
    (turn : ∀ n s, In n s → wpAny (model prog w) A.in1 (pyNext (.ref a)) (fun r s1 => match r with
      | none => R' (.ok (.ret (.bool true))) s1
      | some v => ∃ c, v = .bool c ∧ if c = true then ∃ m, m < n ∧ In m s1 else R' (.ok (.ret (.bool false))) s1) (fun e s' => R' (.error e) s') s) :
    ∀ (n : Nat) (s : Shared), In n s → codeAny (model prog w) A (.builtin "all.loop" ⟨[.ref a], []⟩) R' s := by
  intro n
  induction n using Nat.strongRecOn with
  | ind n ih =>
    intro s h
    refine codeAny_builtin F.entry_all_loop ?_
    rw [Around.under_plainId F.plain_all_loop _]
    show wpAny _ A.in1 (pyNext (.ref a) >>= _) _ _ s
    refine wpAny_bind (wpAny_mono (turn n s h) (fun r s1 q => ?_) fun _ _ z => z)
    cases r with
    | none => exact wpAny_bind (wpAny_rule (wpAny_pure q))
    | some v =>
      obtain ⟨c, e, q⟩ := q
      subst e
      refine wpAny_bind (wpAny_holding (wpAny_truthy_bool ?_))
      refine wpAny_bind (wpAny_letGo ?_)
      cases c with
      | true =>
        simp only [if_true] at q ⊢
        obtain ⟨m, hm, hI⟩ := q
        exact wpAny_pure ⟨plainId_quiet F.plain_all_loop _, ih m hm s1 hI⟩
      | false =>
        simp only [Bool.false_eq_true, if_false] at q ⊢
        exact wpAny_bind (wpAny_rule (wpAny_pure q))
theorem jM {s : Shared} {g : Nat} {x : GenState} {n : Nat} (h : Gn n s.gens) (hx : x.bare = true) : Gn s.gens.size (s.setGen g x).gens := by
  refine ⟨fun y hy => ?_, ?_⟩
  · have J8 : y ∈ s.gens.setIfInBounds g x := hy
    rcases Array.mem_or_eq_of_mem_setIfInBounds J8 with z | z
    · exact h.1 y z
    · rw [z]; exact hx
  · show s.gens.size ≤ (s.gens.setIfInBounds g x).size
    rw [Array.size_setIfInBounds]
    exact Nat.le_refl _
theorem vv {s : Shared} {g : Nat} {x : GenState} (h : g < s.gens.size) : (s.setGen g x).gens[g]? = some x := by
  show (s.gens.setIfInBounds g x)[g]? = _
  rw [Array.getElem?_setIfInBounds_self]
  simp [h]
theorem vw {Y : Cx} {A2 : Around} {R : GenEnd} {Yp : Protocol} {n : Nat} {s₀ s : Shared} {it : Addr} {J : It} {fp : List Addr} {dQ : Nat → Heap → Prop} (T : Turn Y.prog Y.w Y.K tg J fp it dQ) {i : Nat} (st : dQ i s.heap)
    (loop : Seg (model Y.prog Y.w) A2 R Yp n s₀ (.compLoop (dn elt tg iter ifs scope pos) 0 (.ref it) .none Y.env) ((model Y.prog Y.w).den (.compLoop (dn elt tg iter ifs scope pos) 0 (.ref it) .none Y.env)) [] s) :
    Seg (model Y.prog Y.w) A2 R Yp n s₀ (.compStart (dn elt tg iter ifs scope pos) 0 (.ref it) .none Y.env) ((model Y.prog Y.w).den (.compStart (dn elt tg iter ifs scope pos) 0 (.ref it) .none Y.env)) [] s := by
  show Seg _ A2 _ _ _ s₀ _ ((compStart (dn elt tg iter ifs scope pos) 0 (.ref it) .none Y.env).onRaise (leaving Y.env)) [] s
  unfold compStart
  rw [Sem.onRaise_eq_wrap]
  show Seg _ A2 _ _ _ s₀ _ ((ask >>= _).wrap _ _ _ _) [] s
  refine seg_bind_wrap (wpAny_askSetting ?_)
  split
  · exact seg_again rfl loop
  · first
      | exact seg_bind_wrap (wpAny_rule (seg_bind_wrap (wpAny_standAt (seg_bind_wrap (T.self _ i s _ _ st (seg_again rfl loop))))))
      | (refine seg_bind_wrap (wpAny_rule ?_); show Seg _ A2 _ _ _ s₀ _ ((standAt iter.pos >>= _).wrap _ _ _ _) [] s; exact seg_bind_wrap (wpAny_standAt (seg_bind_wrap (T.self _ i s _ _ st (seg_again rfl loop)))))
noncomputable def Dh (P : Addr) (tn : Nat) (idx : List Nat) (wi : TI) (g : TG) (tt : TT) (te : TE) : TE := fun σ H Q => Dg P wi (fun J H1 => ∃ W : Nat → Nat → St → Hp → Prop, (∃ m, W 0 m (cE tn idx σ) H1) ∧ Dc J g tt te false (fun b H2 => Q (.bl b) H2) W) σ H
theorem Di {p pZ : Pos} (hr : b7 (k + 1) X.A) (hc : X.calm = true) (B : bf X.N X.env.scope scope N' tn idx)
    (h0 : scope.names.lookup (".0" : Str) = some .local) (ot : scope.isCoroutine = false) (me : X.env.code = .ref c) (hd : PySem.W.CodeHd X.base c P) (ig : ∃ bm ob, BMod X.base mainGlobals X.mg bm ob)
    (Dj : Gl X "all") (hm : X.mg "all" = none) (hi : PI X tg iter wi) (hg : k9 X N' scope k fun Y => PG Y tg g) (ht : k9 X N' scope k fun Y => jK Y ifs tt) (he : k9 X N' scope k fun Y => PE Y elt te)
    (hs : ∀ x, genFold iter X.env x = pure x := by intro _; rfl) : PE X (.Call (.Name "all" p) [dn elt tg iter ifs scope pZ] [] pos) (Dh P tn idx wi g tt te) := by
  refine ⟨?_⟩
  intro pins s σ H Q I h
  refine wpAny_Call_Name_kw (gP I Dj hm PyProof.Rows.boot_all ?_)
  refine PyProof.Rows.callWith_builtin1 ?_ rfl rfl
  show wpAny _ _ (spliced ((false, eval (dn elt tg iter ifs scope pZ) X.env) :: [])) _ _ s
  refine Calls.spliced_cons (xH hr hc B h0 ot me hd ig hi hs I h ?_)
  intro J H3 a s5 Y it fp dQ gn pp G ⟨W, ⟨m0, w0⟩, turn⟩
  refine Calls.spliced_nil ?_
  refine call_function_tree F.kind_all F.plain_all F.entry_all (F.args_all1 _) ?_
  unfold Builtin.«all»
  refine wpAny_bind (m := oneArg "all" _) (wpAny_pure ?_)
  refine wpAny_bind (wpAny_pyIter_gen (G.isg G.inv) ?_)
  refine wpAny_pure ⟨plainId_quiet F.plain_all_loop _, ?_⟩
  have Dk := xG (A2 := X.A.in4.in1) (pp := pp) (R := fun n s₀ r aw => r = .ok .next ∧ ∃ τ H, Inv Y pp τ H aw ∧ Q (.bl true) H)
    (Yp := fun n s₀ v s pW => ∃ c τ H, v = .bool c ∧ Inv Y pp τ H s ∧ (c = false → Q (.bl false) H) ∧ (c ≠ false → ∀ cc, k8 s cc → pW (.send .none) cc)) G.A G.xe G.calm G.co G.T (G.blk _ hg) (G.blk _ ht) (G.blk _ he) G.stat turn
    (fun n s₀ aw τ H J z => ⟨rfl, τ, H, J, z⟩) (fun n s₀ s pW c τ H J z1 z2 => ⟨c, τ, H, rfl, J, z1, z2⟩)
  have hP := G.prog
  have hW := G.w
  rw [hP, hW] at Dk
  refine xI (A := X.A) (fun n s => (∃ τ H, Inv Y pp τ H s) ∧ ∃ gs, s.gens[gn]? = some gs ∧ ∀ cc, k8 s cc → gs.Goes (model X.prog X.w) X.A.in4.in1 (fun n s₀ r aw => r = .ok .next ∧ ∃ τ H, Inv Y pp τ H aw ∧ Q (.bl true) H)
    (fun n s₀ v s pW => ∃ c τ H, v = .bool c ∧ Inv Y pp τ H s ∧ (c = false → Q (.bl false) H) ∧ (c ≠ false → ∀ cc, k8 s cc → pW (.send .none) cc)) n (.send .none) cc) ?_ (m0 + 1) s5 ?_
  · rintro n s6 ⟨⟨τ, H6, I6⟩, gs, J9, pY⟩
    have LO := G.gsz I6
    refine wpAny_of_in1 (wpAny_of_in1 (wpAny_of_in1 ?_))
    show wpAny (model X.prog X.w) X.A.in4 (pyNext (.ref a)) _ _ s6
    refine wpAny_pyNext_genexpQ (A := X.A.in4) (P := fun n s₀ aw => ∃ τ H, Inv Y pp τ H aw ∧ Q (.bl true) H) hr.hd I6.nolimit hr.depth (G.isg I6) J9 (pY _ ⟨rfl, rfl, jM I6.bare rfl⟩) (fun v s1 Hf hb hv => ?_) (fun s1 hp h' hk => ?_)
    · obtain ⟨c, Hg, H1, e, I1, z1, z2⟩ := hv
      subst e
      refine ⟨c, rfl, ?_⟩
      have ou : k8 s1 (s1.setGen gn Hf) := ⟨rfl, rfl, jM I1.bare hb⟩
      cases c with
      | false =>
        rw [if_neg Bool.false_ne_true]
        exact ⟨.bl false, H1, G.out (I1.m7 ou), rfl, z1 rfl⟩
      | true =>
        rw [if_pos rfl]
        have z3 := z2 (by decide)
        cases n with
        | zero => exact (z3 s1 ⟨rfl, rfl, I1.bare.self⟩).elim
        | succ m =>
          refine ⟨m, Nat.lt_succ_self _, ⟨Hg, H1, I1.m7 ou⟩, Hf, vv (G.gsz I1), fun cc o => z3 cc ⟨o.1, o.2.1, ?_⟩⟩
          exact ou.2.2.trans o.2.2
    · obtain ⟨Hg, H1, I1, z1⟩ := hp
      have I2 := I1.kept (t' := s1.toks) hk
      have zp : k8 { s1 with heap := h' } { s1.setGen gn .finished with heap := h' } := ⟨rfl, rfl, jM (s := s1) I1.bare rfl⟩
      exact ⟨.bl true, H1, G.out (I2.m7 zp), rfl, z1⟩
  · refine ⟨⟨_, _, G.inv⟩, _, G.st, fun cc o => ⟨rfl, ?_⟩⟩
    have I7 := G.inv.m7 o
    have Hh : dQ 0 cc.heap := by rw [o.1]; exact G.tn0
    have q := vw (iter := iter) (ifs := ifs) (scope := scope) (pos := pZ) (elt := elt) G.T Hh (by rw [hP, hW]; exact Dk m0 (m0 + 1) 0 _ _ cc cc (Nat.lt_succ_self _) w0 I7 Hh G.fr)
    rw [hP, hW] at q
    exact q
end
section
variable {X : Cx} {tg l : Expr} {tl : TE}
theorem rF : cL X (.builtin "isinstance") (fun xs H Q => ∃ x T t b, xs = [x, .ty T] ∧ e7 X.K H x t ∧ PySem.W.kitOne X.K t (.type T) = some b ∧ Q (.bl b) H) := by
  intro pins s σ H xs us Q I r h
  obtain ⟨x, T, t, b, rfl, ty, e, q⟩ := h
  obtain ⟨u, w', rfl, r1, r2⟩ := vals2 r
  cases (show w' = Value.type T from r2)
  exact vc I r1 ty e fun tk => ⟨.bl b, H, I.tok tk, rfl, q⟩
theorem kQ : ∀ {xs : List V} {us : List Value}, xs.length = us.length → (∀ (i : Nat) (v : V), xs[i]? = some v → ∃ u, us[i]? = some u ∧ RelV v u) → Vals xs us
  | [], [], _, _ => .nil
  | [], _ :: _, h, _ => by simp at h
  | _ :: _, [], h, _ => by simp at h
  | x :: xs, u :: us, h, g => by
    obtain ⟨u', e, r⟩ := g 0 x rfl
    have e' : u = u' := by simpa using e
    subst e'
    exact .cons r (kQ (by simpa using h) fun i v hv => by
      obtain ⟨w, e2, r2⟩ := g (i + 1) v (by simpa using hv)
      exact ⟨w, by simpa using e2, r2⟩)
theorem p0 {e : Expr} {te : TE} {p p1 p2 pos : Pos} (hc : X.calm = true) (hg : Gl X "list") (hm : X.mg "list" = none) (Dl : Gl X "range") (Dm : X.mg "range" = none) (he : PE X e te) (hs : starEach [e] X.env = [(false, eval e X.env)] := by rfl) :
    PE X (.Call (.Name "list" p) [.Call (.Name "range" p1) [e] [] p2] [] pos) (fun σ H Q => te σ H fun x H1 => ∃ j : Int, x = .int j ∧ -(2 ^ 24) ≤ j ∧ j ≤ 2 ^ 24 ∧ ∀ l, H1 l = none → Q (.ref l) (upd H1 l (.lst ((List.range j.toNat).map fun i => V.int (i : Nat))))) := by
  refine ⟨?_⟩
  intro pins s σ H Q I h
  refine wpAny_Call_Name_kw (gP I hg hm (by decide +kernel : bootBuiltins "list" = some (.type "list")) ?_)
  refine PyProof.Rows.callWith_type1 ?_ rfl rfl
  show wpAny _ _ (spliced ((false, eval (.Call (.Name "range" p1) [e] [] p2) X.env) :: [])) _ _ s
  refine Calls.spliced_cons ?_
  refine Call_ (gP I Dl Dm boot_range (PyProof.Rows.callWith_type1 ?_ hs rfl))
  rw [hs]
  refine Calls.spliced_cons (thn (he pins s σ H _ I h) fun v s1 ⟨x, H1, I1, r1, q1⟩ => Calls.spliced_nil ?_)
  obtain ⟨j, rfl, b1, b2, q⟩ := q1
  obtain ⟨t, rfl⟩ := r1
  refine call_range_1 ?_
  refine Calls.spliced_nil ?_
  refine call_list_range (n := j.toNat) (I1.ok.hd hc) (IsRange.new ..) (small_one (by omega) (by omega) (by omega) (by omega)) (by rw [PyProof.Rows.rangeSize_nat]; simp) (by omega) fun h' tk gS c' hk hS hit => ?_
  have I2 : Inv X pins σ H1 { s1 with heap := s1.heap.push { cls := .type "range", data := .fields #[.int 0 s1.toks, .int j t, .int 1 (s1.toks + 1)] }, toks := s1.toks + 1 + 1 } := I1.kept fun b o e => Heap.get?_push_of_some _ e
  obtain ⟨gw, iS⟩ := hit
  have rv : Vals ((List.range j.toNat).map fun i => V.int (i : Nat)) gS.toList := by
    refine kQ (by simpa using gw.symm) fun i v e => ?_
    rw [List.getElem?_map] at e
    cases q2 : (List.range j.toNat)[i]? with
    | none => rw [q2] at e; cases e
    | some k =>
      rw [q2] at e
      have ek : k = i := by
        obtain ⟨_, e3⟩ := List.getElem?_eq_some_iff.mp q2
        simpa using e3.symm
      have hi : i < gS.size := by
        have := (List.getElem?_eq_some_iff.mp q2).1
        rw [List.length_range] at this
        omega
      obtain ⟨t2, e4⟩ := iS i gS[i] (by simp [hi])
      refine ⟨gS[i], by simp [hi], ?_⟩
      rw [e4]
      have e5 : v = V.int (k : Nat) := (Option.some.inj e).symm
      rw [e5, ek]
      exact ⟨t2, by simp⟩
  have ob : bt X.prog X.w (upd H1 (s1.heap.push { cls := .type "range", data := .fields #[.int 0 s1.toks, .int j t, .int 1 (s1.toks + 1)] }).objs.size (.lst ((List.range j.toNat).map fun i => V.int (i : Nat)))) h' (s1.heap.push { cls := .type "range", data := .fields #[.int 0 s1.toks, .int j t, .int 1 (s1.toks + 1)] }).objs.size (.lst ((List.range j.toNat).map fun i => V.int (i : Nat))) := by
    refine ⟨?_, gS.toList, c', rv, by simpa using hS⟩
    rw [List.length_map, List.length_range]
    exact Nat.le_trans (show j.toNat ≤ 2 ^ 24 by omega) (by decide)
  exact ⟨.ref _, _, I2.laid (t' := tk) hk (Nat.le_refl _) ob, rfl, q _ (I2.hok.fresh (Nat.le_refl _))⟩
end
theorem Dn : bootBuiltins "int" = some (.type "int") := by decide +kernel
theorem Aw : bootBuiltins "bool" = some (.type "bool") := by decide +kernel
theorem gT : bootBuiltins "tuple" = some (.type "tuple") := by decide +kernel
theorem sE : bootBuiltins "list" = some (.type "list") := by decide +kernel
theorem p7 : bootBuiltins "min" = some (.builtin "min") := by decide +kernel
theorem Dp : bootBuiltins "max" = some (.builtin "max") := by decide +kernel
theorem Dq : bootBuiltins "abs" = some (.builtin "abs") := by decide +kernel
theorem oJ : bootBuiltins "ValueError" = some (.type "ValueError") := by decide +kernel
theorem cq : bootBuiltins "isinstance" = some (.builtin "isinstance") := by decide +kernel
structure Bl (mg : Str → Option Value) : Prop where
  len_ : mg "len" = none
  range_ : mg "range" = none
  min_ : mg "min" = none
  max_ : mg "max" = none
  abs_ : mg "abs" = none
  list_ : mg "list" = none
  tuple_ : mg "tuple" = none
  int_ : mg "int" = none
  str_ : mg "str" = none
  bool_ : mg "bool" = none
  isinstance_ : mg "isinstance" = none
  all_ : mg "all" = none
  set_ : mg "set" = none
  sorted_ : mg "sorted" = none
  zip_ : mg "zip" = none
  enumerate_ : mg "enumerate" = none
  sum_ : mg "sum" = none
  reversed_ : mg "reversed" = none
  divmod_ : mg "divmod" = none
  any_ : mg "any" = none
  ValueError_ : mg "ValueError" = none
structure Df (K : PySem.W.Frag) (mg : Str → Option Value) (x : Str) (st : Stmt) (ps : List Str) (f : Addr) (fd : FuncData) : Prop where
  fn : oj K x x st f fd
  bd : Binds K fd ps []
  mg : mg x = some (.ref f)
structure zq (base : Heap) (fd : FuncData) (c P : Addr) : Prop where
  code : fd.code = .ref c
  hd : PySem.W.CodeHd base c P
section
variable {P : Program} {w : World} {K : PySem.W.Frag} {mg : Str → Option Value} {base : Heap}
theorem oj.Ka {x qual : Str} {st : Stmt} {f : Addr} {fd : FuncData} {N ps : List Str} {k : Nat} {sp : Sp} (F : oj K x qual st f fd) (S : aG N ps (ak st)) (len : ∀ vs H Q E, sp vs H Q E → vs.length = ps.length)
    (lQ : ∀ (A : Around) (outer : List Env) (s : Shared) (H : Hp) (vs : List V) (Q : VK) (E : XK), b7 k (A.deeper (envOfC qual (ak st) s.heap.objs.size f fd.code)) → sp vs H Q E →
      ∃ t, dO (e8 b9 P w K mg base N qual (ak st) f fd.code A outer s H E).uQ (bB st) t ∧ t { nx := fun _ H' => Q .aC H', rt := Q } (start N vs) H) : FnOk P w K mg base b9 (k + 1) f fd ps sp := by
  obtain ⟨oc, od, kV, doc, pm, an, b8, ct, gv, rfl, lk, fx⟩ := F.ex
  refine zj lk fx S len fun A outer s H vs Q E hr kM => ?_
  obtain ⟨t, h, q⟩ := lQ A outer s H vs Q E hr kM
  exact ⟨t, h.uQ, q⟩
end
noncomputable def L8 : V → Bool | .int _ => true | _ => false
noncomputable def below (m : Int) : V → Bool | .int i => decide (0 ≤ i) && decide (i < m) | _ => false
structure mi (aD : List (List Int)) (w : Nat) : Prop where
  one : 1 ≤ aD.length
  nine : aD.length ≤ 9
  wid : w = 2 ∨ w = 3
  row : ∀ r ∈ aD, r.length = w ∧ ∀ g ∈ r, 0 ≤ g ∧ g < (aD.length : Int)
noncomputable def zt (tb : List Addr) (H : Hp) : Prop := ∀ p ∈ tb, Tb p H
noncomputable def FX (H : Hp) (b : Addr) : Prop := ∃ c m : Int, H b = some (.lst [.int c, .int m]) ∧ 0 ≤ c ∧ 0 ≤ m
noncomputable def Runs (J : It) (ys : List V) (H : Hp) : Prop := ∀ i, (i < ys.length → J.go i H ∧ ∀ x H', J.yld i H x H' → H' = H ∧ ys[i]? = some x) ∧ (ys.length ≤ i → J.stop i H)
theorem xJ {K : PySem.W.Frag} {a : Addr} {ys : List V} {H : Hp} (h : bW K H a ys) : Runs (Cj K a) ys H := fun i =>
  ⟨fun hi => ⟨⟨ys, ys[i], h, List.getElem?_eq_getElem hi⟩, fun x H' y => ⟨y.1, y.2 ys h⟩⟩, fun hi => ⟨ys, h, hi⟩⟩
theorem vy {K : PySem.W.Frag} {a : Addr} {ys : List V} {H : Hp} (h : bQ K H a ys) : Runs (Ci K a) ys H := fun i =>
  ⟨fun hi => ⟨⟨ys, ys[i], h, List.getElem?_eq_getElem hi⟩, fun x H' y => ⟨y.1, y.2 ys h⟩⟩, fun hi => ⟨ys, h, hi⟩⟩
theorem tL {lo : Int} {n : Nat} {H : Hp} : Runs (y8 lo n) ((List.range n).map fun i => V.int (lo + (i : Nat))) H := fun i => by
  have el : ((List.range n).map fun i => V.int (lo + (i : Nat))).length = n := by simp
  rw [el]
  refine ⟨fun hi => ⟨hi, fun x H' y => ?_⟩, fun hi => hi⟩
  obtain ⟨e1, e2⟩ := y
  refine ⟨e1, ?_⟩
  rw [e2, List.getElem?_map, List.getElem?_range hi]
  rfl
section
variable {X : Cx} {K : PySem.W.Frag}
theorem sF (h : X.K = K) : jH X (G2 K) := h ▸ CT
theorem vz (h : X.K = K) : cL X (.builtin "len") (fun xs H Q => ∃ x n, xs = [x] ∧ CB K x H n ∧ Q (.int n) H) := h ▸ xt
theorem oK (h : X.K = K) : cL X (.type "list") (fun xs H Q => ∃ p ys, xs = [.ref p] ∧ (bQ K H p ys ∨ bW K H p ys) ∧ ∀ l, H l = none → Q (.ref l) (upd H l (.lst ys))) := h ▸ pO
theorem m8 (h : X.K = K) : cL X (.type "tuple") (fun xs H Q => ∃ p ys, xs = [.ref p] ∧ ((bQ K H p ys ∧ ∀ l, H l = none → Q (.ref l) (upd H l (.tup ys))) ∨ (bW K H p ys ∧ Q (.ref p) H))) := h ▸ oI
theorem qa (h : X.K = K) : cL X (.builtin "isinstance") (fun xs H Q => ∃ x T t b, xs = [x, .ty T] ∧ e7 K H x t ∧ PySem.W.kitOne K t (.type T) = some b ∧ Q (.bl b) H) := h ▸ rF
theorem xK {tg l : Expr} {tl : TE} (h : X.K = K) (hl : PE X l tl) : PI X tg l (y9 K tl) := h ▸ Ae hl
theorem Ax {tg l : Expr} {tl : TE} (h : X.K = K) (hl : PE X l tl) : PI X tg l (Ck K tl) := h ▸ Cm hl
variable {o e : Expr} {es : List Expr} {to : TE} {t : TA} {name : Str} {apos bg : Pos} {T id : String} {r : V → List V → Hp → VK → Prop}
theorem Dr (h : X.K = K) (pa : PlainAttrs T) (slot : Slot T name id) (vk : typeOf (.builtin id) = pure (.type "method_descriptor")) (hm : CL X id r) (ho : PE X o to) (ha : PA X (e :: es) t) (lU : attributeBase o name X.env (eval o X.env) = eval o X.env := by rfl)
    (pP : ((backTo bg (starEach (e :: es) X.env)).all (fun x => !x.1) && (backToKw bg (keywordEach [] X.env)).all (fun x => x.1.isSome)
      && decide ((e :: es).length + ([] : List Keyword).length + (if ([] : List Keyword).isEmpty then 0 else 1) < 30)) = true := by rfl)
    (hline : (apos.endLine == bg.line) = true := by rfl) (hs : starEach (e :: es) X.env = (false, eval e X.env) :: starEach es X.env := by rfl) (jI : (backTo bg (starEach es X.env)).any (·.1) = false := by rfl) :
    PE X (.Call (.Attribute o name apos) (e :: es) [] bg) (G3 K T r to t) := h ▸ FT pa slot vk hm ho ha lU pP hline hs jI
end
noncomputable abbrev aH (K : PySem.W.Frag) (x : Str) (st : Stmt) : Prop :=
  ∃ (f : Addr) (oc : Value) (od : Option Addr) (sl : Array (Option Value)) (kV dc pm : Value) (an : Option Addr) (cd ct : Value),
    PySem.W.nsIn K mainGlobals x = some (some (.ref f)) ∧ K.lookup f = some ⟨oc, od, .func (PySem.W.fnOf x x (cf st) (bB st) (ak st) .none kV dc pm an cd ct), sl⟩ ∧ PySem.W.codeIn K cd x = true ∧ PySem.W.keepIn K (.ref f) = true
theorem av {K : PySem.W.Frag} {x : Str} {st : Stmt} {f : Addr} {oc : Value} {od : Option Addr} {sl : Array (Option Value)} {kV dc pm : Value} {an : Option Addr} {cd ct : Value} (a : PySem.W.nsIn K mainGlobals x = some (some (.ref f)))
    (l : K.lookup f = some ⟨oc, od, .func (PySem.W.fnOf x x (cf st) (bB st) (ak st) .none kV dc pm an cd ct), sl⟩) (c : PySem.W.codeIn K cd x = true) (k : PySem.W.keepIn K (.ref f) = true) : aH K x st := ⟨f, oc, od, sl, kV, dc, pm, an, cd, ct, a, l, c, k⟩
section
variable {K : PySem.W.Frag} {mg : Str → Option Value} {h base : Heap}
theorem aH.df {x : Str} {st : Stmt} (d : aH K x st) (X : K.In h) (G : h.Ns mainGlobals mg) (ps : List Str)
    (hb : ∀ (kV doc pm : Value) (an : Option Addr) (b8 ct : Value) (us : List Value), us.length = ps.length → bindArgs (PySem.W.fnOf x x (cf st) (bB st) (ak st) .none kV doc pm an b8 ct) ⟨us, []⟩ = pure (ps.zip us)) :
    ∃ f fd, Df K mg x st ps f fd := by
  obtain ⟨f, oc, od, sl, kV, dc, pm, an, cd, ct, a, l, c, k⟩ := d
  have F := C5 (st := st) l c k
  exact ⟨f, _, F, F.binds hb, PySem.W.mg_of X G a⟩
theorem vA {x : Str} {st : Stmt} {ps : List Str} {f p : Addr} {fd : FuncData} (D : Df K mg x st ps f fd) (X : K.In h)
    (t : ∃ f o fd c, mg x = some (.ref f) ∧ h.get? f = some o ∧ o.data = .func fd ∧ fd.code = .ref c ∧ PySem.W.CodeHd h c p) (tr : ∀ c p, PySem.W.CodeHd h c p → PySem.W.CodeHd base c p) : ∃ c, zq base fd c p := by
  obtain ⟨f', o, Kb, c, e1, e2, e3, e4, e5⟩ := t
  obtain ⟨oc, od, kV, doc, pm, an, b8, ct, gv, rfl, lk, fx⟩ := D.fn.ex
  have e := D.mg.symm.trans e1
  cases e
  have q := (X _ _ lk).symm.trans e2
  cases q
  cases e3
  exact ⟨c, e4, tr _ _ e5⟩
theorem Df.bind1 {x y : Str} {st : Stmt} {f : Addr} {fd : FuncData} (D : Df K mg x st [y] f fd) (s : Shared) (v : Value)
    (hb : ∀ (kV doc pm : Value) (an : Option Addr) (b8 ct : Value) (u : Value), bindArgs (PySem.W.fnOf x x (cf st) (bB st) (ak st) .none kV doc pm an b8 ct) ⟨[u], []⟩ = pure [(y, u)]) : BindsTo s fd ⟨[v], []⟩ [(y, v)] := by
  obtain ⟨oc, od, kV, doc, pm, an, b8, ct, gv, rfl, lk, fx⟩ := D.fn.ex
  exact .of_eq (hb kV doc pm an b8 ct v)
theorem kR {α β : Type} {F : α → β → Prop} {a : α} {r : List α} {t : List β} (h : Paired F (a :: r) t) : ∃ b t', t = b :: t' ∧ F a b ∧ Paired F r t' := by
  cases h with
  | cons x y => exact ⟨_, _, rfl, x, y⟩
theorem recs_of {q : Program} {jA : List Str} (h : (jA.all fun y => (recsOf q).any fun r => decide (r.name = y)) = true) : ∀ y ∈ jA, ∃ r ∈ recsOf q, r.name = y := fun y hy => by
  have := List.all_eq_true.mp h y hy
  obtain ⟨r, hr, e⟩ := List.any_eq_true.mp this
  exact ⟨r, hr, of_decide_eq_true e⟩
end
noncomputable def jN (xs : Array Nat) : Prop := xs.toList.Pairwise (· < ·)
theorem qb {xs : Array Nat} (h : jN xs) {i j : Nat} (Hi : i < j) (hj : j < xs.size) : xs[i] < xs[j] := by
  have := List.pairwise_iff_getElem.mp h i j (by simpa using Nat.lt_trans Hi hj) (by simpa using hj) Hi
  simpa using this
theorem below_go {xs : Array Nat} {v : Nat} (h : jN xs) : ∀ (fuel lo hi : Nat), hi - lo ≤ fuel → lo ≤ hi → hi ≤ xs.size → (∀ i (dR : i < xs.size), i < lo → xs[i] < v) → (∀ i (dR : i < xs.size), hi ≤ i → v ≤ xs[i]) →
    SetTable.below.go xs v fuel lo hi ≤ xs.size ∧ (∀ i (dR : i < xs.size), i < SetTable.below.go xs v fuel lo hi → xs[i] < v) ∧ ∀ i (dR : i < xs.size), SetTable.below.go xs v fuel lo hi ≤ i → v ≤ xs[i]
  | 0, lo, hi, hf, h1, h2, ha, hb => by
    have e : lo = hi := by omega
    subst e
    exact ⟨h2, ha, hb⟩
  | fuel + 1, lo, hi, hf, h1, h2, ha, hb => by
    unfold SetTable.below.go
    by_cases c7 : lo < hi
    · rw [if_pos c7]
      dsimp only
      have hm : (lo + hi) / 2 < xs.size := by omega
      have e : xs.getD ((lo + hi) / 2) v = xs[(lo + hi) / 2] := by simp [Array.getD, hm]
      rw [e]
      by_cases hc : xs[(lo + hi) / 2] < v
      · rw [if_pos hc]
        refine below_go h fuel _ _ (by omega) (by omega) h2 (fun i dR hl => ?_) hb
        by_cases ei : i = (lo + hi) / 2
        · subst ei; exact hc
        · exact Nat.lt_trans (qb h (show i < (lo + hi) / 2 by omega) hm) hc
      · rw [if_neg hc]
        refine below_go h fuel _ _ (by omega) (by omega) (by omega) ha (fun i dR hl => ?_)
        by_cases ei : i = (lo + hi) / 2
        · subst ei; exact Nat.le_of_not_lt hc
        · exact Nat.le_trans (Nat.le_of_not_lt hc) (Nat.le_of_lt (qb h (show (lo + hi) / 2 < i by omega) dR))
    · rw [if_neg c7]
      have e : lo = hi := by omega
      subst e
      exact ⟨h2, ha, hb⟩
theorem xM {xs : Array Nat} (v : Nat) (h : jN xs) : SetTable.below xs v ≤ xs.size ∧ (∀ i (dR : i < xs.size), i < SetTable.below xs v → xs[i] < v) ∧ ∀ i (dR : i < xs.size), SetTable.below xs v ≤ i → v ≤ xs[i] :=
  below_go h _ _ _ (by omega) (Nat.zero_le _) (Nat.le_refl _) (fun i _ z => absurd z (Nat.not_lt_zero _)) (fun i z z' => absurd z (Nat.not_lt.mpr z'))
theorem tM {xs : Array Nat} {v : Nat} (h : jN xs) (hn : xs[SetTable.below xs v]? ≠ some v) : jN (SetTable.insertAt xs (SetTable.below xs v) v) := by
  obtain ⟨b0, b1, b2⟩ := xM v h
  generalize SetTable.below xs v = p at *
  unfold jN SetTable.insertAt
  have e : ((xs.extract 0 p).push v ++ xs.extract p xs.size).toList = xs.toList.take p ++ [v] ++ xs.toList.drop p := by
    simp
    exact List.take_of_length_le (by simp)
  rw [e]
  have hl : ∀ y ∈ xs.toList.take p, y < v := fun y hy => by
    obtain ⟨i, hi, rfl⟩ := List.mem_take_iff_getElem.mp hy
    have ow : i < p ∧ i < xs.size := by simpa [Nat.lt_min] using hi
    simpa using b1 i ow.2 ow.1
  have hr : ∀ y ∈ xs.toList.drop p, v < y := fun y hy => by
    obtain ⟨i, hi, rfl⟩ := List.mem_drop_iff_getElem.mp hy
    have ow : p + i < xs.size := by rw [Nat.add_comm]; simpa using hi
    have h1 : v ≤ xs[p + i] := b2 (p + i) ow (Nat.le_add_right _ _)
    have h2 : v ≠ xs[p + i] := fun z => by
      by_cases Kc : i = 0
      · subst Kc
        exact hn (by rw [Nat.add_zero] at ow; rw [Array.getElem?_eq_getElem ow]; simpa using z.symm)
      · have q := qb h (show p < p + i by omega) ow
        have q2 := b2 p (by omega) (Nat.le_refl _)
        omega
    have : xs.toList[p + i]'(by simpa using ow) = xs[p + i] := by simp
    rw [this]
    omega
  have hp := List.take_append_drop p xs.toList
  have Kd : (xs.toList.take p ++ xs.toList.drop p).Pairwise (· < ·) := by rw [hp]; exact h
  obtain ⟨q1, q2, q3⟩ := List.pairwise_append.mp Kd
  refine List.pairwise_append.mpr ⟨List.pairwise_append.mpr ⟨q1, List.pairwise_singleton _ _, fun a ha b hb => ?_⟩, q2, fun a ha b hb => ?_⟩
  · rw [List.mem_singleton] at hb; subst hb; exact hl a ha
  · rcases List.mem_append.mp ha with ha | ha
    · exact q3 a ha b hb
    · rw [List.mem_singleton] at ha; subst ha; exact hr b hb
structure bI (w : World) (t : SetTable) : Prop where
  dum : t.dummies = #[]
  ris : jN t.place
  led : t.led = !w.params.followText "set-order"
theorem vB (n : Nat) : jN (Array.range n) := by
  unfold jN
  rw [Array.toList_range]
  exact List.pairwise_lt_range
theorem bI.standIn {w : World} {t : SetTable} (h : bI w t) (n : Nat) : bI w (t.standIn n) := ⟨rfl, vB n, h.led⟩
theorem bI.orStandIn {w : World} {t : SetTable} (h : bI w t) (n : Nat) : bI w (t.orStandIn n) := by
  unfold SetTable.orStandIn
  split
  · exact h
  · exact h.standIn n
theorem sG (j : Nat) : SetTable.has #[] j = false := by
  unfold SetTable.has
  have : (#[] : Array Nat)[SetTable.below #[] j]? = none := by simp
  rw [this]
  rfl
theorem qd {w : World} {t : SetTable} (h : bI w t) {hashAt : Nat → Int} {hh : Int} {j : Nat} {d : Option Nat} : ∀ (fuel : Nat) (p : SetTable.Probe), p.dummy = none → SetTable.probe.go t hashAt hh fuel p = some (.empty j d) → t.slot j = .empty ∧ d = none
  | 0, p, _, e => by simp [SetTable.probe.go] at e
  | fuel + 1, p, hp, e => by
    unfold SetTable.probe.go at e
    have IU : ∀ p : SetTable.Probe, (t.advance p).dummy = p.dummy := fun p => by
      unfold SetTable.advance
      split <;> rfl
    cases hs : t.slot p.j with
    | empty =>
      rw [hs] at e
      have e' := Option.some.inj e
      injection e' with e1 e2
      exact ⟨by rw [← e1]; exact hs, by rw [← e2]; exact hp⟩
    | dummy =>
      exfalso
      unfold SetTable.slot at hs
      dsimp only at hs
      rw [h.dum, sG] at hs
      split at hs <;> simp at hs
    | live i =>
      rw [hs] at e
      dsimp only at e
      split at e
      · simp at e
      · exact qd h fuel _ (by rw [IU]; exact hp) e
theorem tN {w : World} {t : SetTable} (h : bI w t) {j : Nat} (e : t.slot j = .empty) : t.place[SetTable.below t.place j]? ≠ some j := fun z => by
  unfold SetTable.slot at e
  dsimp only at e
  rw [z] at e
  simp at e
theorem bI.put {w : World} {t : SetTable} (h : bI w t) {j : Nat} (e : t.slot j = .empty) : bI w (t.put j).1 := by
  unfold SetTable.put
  refine ⟨?_, tM h.ris (tN h e), h.led⟩
  show (if SetTable.has t.dummies j then _ else t.dummies) = #[]
  rw [h.dum, sG]
  rfl
theorem bI.layNew {w : World} {t : SetTable} (h : bI w t) (es : Array (Int × Value)) (hh : Int) (x : Value) : bI w (layNew t es hh x).2.1 := by
  unfold PySem.layNew
  split
  · rename_i slot la hf
    unfold SetTable.freeSlot at hf
    refine (bI.put h ?_).orStandIn _
    split at hf
    · rename_i j dummy hp
      obtain ⟨e1, e2⟩ := qd h _ _ rfl hp
      subst e2
      have := Option.some.inj hf
      injection this with z1 _
      rw [← z1]
      exact e1
    · cases hf
  · exact h.standIn _
theorem xN {α : Type} (f : Nat → Option α) (n : Nat) : jN (((List.range n).filterMap fun j => (f j).map (j, ·)).map (·.1)).toArray := by
  unfold jN
  have e : (((List.range n).filterMap fun j => (f j).map (j, ·)).map (·.1)).toArray.toList = (List.range n).filter fun j => (f j).isSome := by
    rw [List.toList_toArray]
    induction List.range n with
    | nil => rfl
    | cons a l ih =>
      cases hf : f a with
      | none => simp [List.filterMap_cons, hf, ih]
      | some b => simp [List.filterMap_cons, hf, ih]
  rw [e]
  exact List.Pairwise.filter _ List.pairwise_lt_range
theorem bI.FY {w : World} {t : SetTable} (h : bI w t) (es : Array (Int × Value)) (wanted : Nat) : bI w (relayAll t es wanted).2.1 := by
  unfold relayAll
  split
  · rename_i t' order hr
    dsimp only
    split
    · unfold SetTable.relaid SetTable.laid at hr
      simp only [Option.bind_eq_bind, Option.bind_eq_some_iff, Option.pure_def] at hr
      obtain ⟨owner, _, hr⟩ := hr
      have := Option.some.inj hr
      injection this with z1 _
      subst z1
      exact ⟨rfl, xN (fun j => owner.getD j none) _, h.led⟩
    · exact h.standIn _
  · exact h.standIn _
theorem bI.xO {w : World} {t : SetTable} (h : bI w t) (b : Bool) : bI w (if b = true then t else { t with plain := false }) := by
  split
  · exact h
  · exact ⟨h.dum, h.ris, h.led⟩
noncomputable def jc (e : Int × Value) : Int := match e.2 with | .int i _ => i | _ => 0
noncomputable def cV (P : Program) (w : World) (h : Heap) (a : Addr) (ns : List Int) : Prop :=
  ∃ o es ep t, h.get? a = some o ∧ o.ExactSet ∧ o.data = .set es ep t ∧ ElemsOf (intKind P w) es.toList ∧ (es.toList.map jc).Perm ns ∧ ns.Nodup ∧ es.size < scanBound ∧ t.fits es.size = true ∧ bI w t
theorem cV.eJ {P : Program} {w : World} {h h' : Heap} {a : Addr} {ns : List Int} (x : cV P w h a ns) (k : ∀ o, h.get? a = some o → h'.get? a = some o) : cV P w h' a ns :=
  let ⟨o, es, ep, t, e, r⟩ := x; ⟨o, es, ep, t, k o e, r⟩
noncomputable def lb (P : Program) (w : World) (a : Addr) (ns : List Int) : HO := .ext fun h => cV P w h a ns
noncomputable def fB (ns : List Int) (m : Int) : List Int := if m ∈ ns then ns else ns ++ [m]
theorem rG {P : Program} {w : World} {es : List (Int × Value)} (h : ElemsOf (intKind P w) es) {k : Int} : (∃ e ∈ es, (intKind P w).is k e.2 = true) ↔ k ∈ es.map jc := by
  constructor
  · rintro ⟨e, he, hk⟩
    obtain ⟨t, e2⟩ := Value.isInt_shape (k := k) (v := e.2) hk
    exact List.mem_map.mpr ⟨e, he, by unfold jc; rw [e2]⟩
  · intro hm
    obtain ⟨e, he, q⟩ := List.mem_map.mp hm
    obtain ⟨⟨k', zu, _⟩, _⟩ := h e he
    obtain ⟨t, e2⟩ := Value.isInt_shape (k := k') (v := e.2) zu
    have : k' = k := by rw [← q]; unfold jc; rw [e2]
    exact ⟨e, he, this ▸ zu⟩
section
variable {P : Program} {w : World} {A : Around} {E : Value → Shared → Prop} {s : Shared}
theorem mj {h : Heap} {a : Addr} {o : Obj} {es : Array (Int × Value)} {ep : Nat} {t : SetTable} (ho : h.get? a = some o) (hex : o.ExactSet) (hd : o.data = .set es ep t)
    {f7 : Array (Int × Value)} {t' : SetTable} {ns : List Int} (ox : ElemsOf (intKind P w) f7.toList) (hp : (f7.toList.map jc).Perm ns) (hn : ns.Nodup) (hb : f7.size < scanBound) (hf : t'.fits f7.size = true) (ht : bI w t') :
    (h.update a (Obj.putSet f7 t')).get? a = some { o with data := .set f7 (ep + 1) t' } ∧ cV P w (h.update a (Obj.putSet f7 t')) a ns := by
  have hg : (h.update a (Obj.putSet f7 t')).get? a = some { o with data := .set f7 (ep + 1) t' } := by
    have := Heap.get?_update_self (Obj.putSet f7 t') ho (by rw [putSet_of f7 t' hd]; rfl)
    rw [putSet_of f7 t' hd] at this; exact this
  exact ⟨hg, _, f7, ep + 1, t', hg, hex, rfl, ox, hp, hn, hb, hf, ht⟩
theorem qf {g : Bool → Sem Unit} (hg : ∀ (b : Bool) (aw : Shared) (Q' : Unit → Shared → Prop), Q' () aw → wpAny (model P w) A (g b) Q' E aw)
    {a : Addr} {o : Obj} {es : Array (Int × Value)} {ep : Nat} {t : SetTable} (ho : s.heap.get? a = some o) (hex : o.ExactSet) (hd : o.data = .set es ep t)
    {dD : Array (Int × Value)} {t2 : SetTable} {ns : List Int} (qg : ElemsOf (intKind P w) dD.toList) (vC : (dD.toList.map jc).Perm ns) (hn : ns.Nodup)
    (sH : dD.size < scanBound) (Ke : t2.fits dD.size = true) (zv : bI w t2) {la : Bool} {R : Option Bool → Shared → Prop}
    (h : ∀ h', Heap.SameBut a s.heap h' → cV P w h' a ns → R (some true) { s with heap := h' }) :
    wpAny (model P w) A (do
        storeSet a dD t2
        if (!la && t2.tooFull) = true then do
            g (relayAll t2 dD (SetTable.grown dD.size)).2.2
            storeSet a (relayAll t2 dD (SetTable.grown dD.size)).1 (relayAll t2 dD (SetTable.grown dD.size)).2.1
            pure (some true)
          else pure (some true)) R E s := by
  refine wpAny_bind (wpAny_storeSet_of ho hd ?_ (fits_of_scanBound sH))
  obtain ⟨Hj, Kf⟩ := mj (P := P) (w := w) ho hex hd qg vC hn sH Ke zv
  have Dt := Heap.SameBut.update s.heap a (Obj.putSet dD t2)
  split
  · have hp := relayAll_perm t2 dD (SetTable.grown dD.size)
    have vq := relayAll_fits t2 dD (SetTable.grown dD.size)
    have vt := zv.FY dD (SetTable.grown dD.size)
    generalize relayAll t2 dD (SetTable.grown dD.size) = Rl at hp vq vt ⊢
    obtain ⟨Hk, t3, Lz⟩ := Rl
    dsimp only at hp vq vt ⊢
    have gw : Hk.size = dD.size := by rw [← Array.length_toList, hp.length_eq, Array.length_toList]
    have zx : Hk.size < scanBound := by rw [gw]; exact sH
    refine wpAny_bind (hg _ _ _ (wpAny_bind (wpAny_storeSet_of Hj rfl ?_ (fits_of_scanBound zx))))
    obtain ⟨_, Du⟩ := mj (P := P) (w := w) Hj hex rfl (qg.perm hp) ((hp.map jc).trans vC) hn zx vq vt
    exact wpAny_pure (h _ (Dt.trans (Heap.SameBut.update _ a _)) Du)
  · exact wpAny_pure (h _ Dt Kf)
theorem vD {a : Addr} {ns : List Int} {m : Int} {tk : Tok} {Q : Bool → Shared → Prop} (hS : cV P w s.heap a ns) (mh : ns.length + 1 < scanBound)
    (h : ∀ h', Heap.SameBut a s.heap h' → cV P w h' a (fB ns m) → Q (decide (m ∉ ns)) { s with heap := h', toks := s.toks + 1 }) : wpAny (model P w) A (setAdd a (.int m tk)) Q E s := by
  unfold setAdd
  refine wpAny_holding (wpAny_bind ((intKind P w).pyHash (k := m) (intKind_is _ _ _ _) ?_))
  have tE : (intKind P w).is m (.int m tk) = true := intKind_is _ _ _ _
  obtain ⟨o, es, ep, t, ho, hex, hd, ox, hp, hn, hb, hf, ht⟩ := hS
  have m9 : ∀ k, (∃ e ∈ es.toList, (intKind P w).is k e.2 = true) ↔ k ∈ ns := fun k => (rG ox).trans hp.mem_iff
  have hlen : es.size = ns.length := by rw [← Array.length_toList, ← hp.length_eq, List.length_map]
  unfold setAddHashed setAddHashedIn
  refine wpAny_holding (wpAny_bind (wpAny_setState_of (s := { s with toks := s.toks + 1 }) ho hd hf ?_))
  dsimp only
  rw [byScan_of (x := .int m tk) rfl hb ox]
  simp only [↓reduceIte]
  unfold setAddByScan
  refine wpAny_bind (wpAny_bind (wpAny_rule (wpAny_bind (wpAny_setScan_of tE ho hd hf ox ?_))))
  cases hr : List.findIdx? (fun e => (intKind P w).is m e.2) es.toList with
  | some j =>
    dsimp only
    obtain ⟨hj, Kg, _⟩ := List.findIdx?_eq_some_iff_getElem.mp hr
    have hm : m ∈ ns := (m9 m).mp ⟨es.toList[j], List.getElem_mem hj, Kg⟩
    have := h s.heap (Heap.SameBut.refl a s.heap) (by unfold fB; rw [if_pos hm]; exact ⟨o, es, ep, t, ho, hex, hd, ox, hp, hn, hb, hf, ht⟩)
    rw [decide_eq_false (fun z => z hm)] at this
    exact wpAny_pure (wpAny_pure this)
  | none =>
    dsimp only
    have hm : m ∉ ns := fun z => by
      obtain ⟨e, he, q⟩ := (m9 m).mpr z
      have := List.findIdx?_eq_none_iff.mp hr e he
      rw [q] at this; cases this
    have kj := layNew_perm t es ((intKind P w).hash m) (.int m tk)
    have mn := layNew_fits t es ((intKind P w).hash m) (.int m tk)
    have gU := ht.layNew es ((intKind P w).hash m) (.int m tk)
    generalize layNew t es ((intKind P w).hash m) (.int m tk) = L at kj mn gU ⊢
    obtain ⟨dD, t1, la, LQ⟩ := L
    dsimp only at kj mn gU ⊢
    rw [Array.toList_push] at kj
    have qg : ElemsOf (intKind P w) dD.toList := (ox.push tE rfl).perm kj
    have Dw : fB ns m = ns ++ [m] := by unfold fB; rw [if_neg hm]
    have vC : (dD.toList.map jc).Perm (fB ns m) := by
      rw [Dw]
      refine (kj.map jc).trans ?_
      rw [List.map_append]
      exact List.Perm.append hp (.refl _)
    have Hl : (fB ns m).Nodup := by
      rw [Dw]
      exact List.nodup_append.mpr ⟨hn, by simp, fun a ha b hb => by rw [List.mem_singleton] at hb; rw [hb]; exact fun z => hm (z ▸ ha)⟩
    have sH : dD.size < scanBound := by rw [← Array.length_toList, kj.length_eq, List.length_append, Array.length_toList, hlen]; simpa using mh
    have Dx : ∀ (b : Bool) (aw : Shared) (Q' : Unit → Shared → Prop), Q' () aw → wpAny (model P w) A (match b with | true => rule "set.scan.the-table-gave-way" | false => pure ()) Q' E aw :=
      fun b aw Q' hq => by cases b <;> first | exact wpAny_pure hq | exact wpAny_rule hq
    have Dy : ∀ h', Heap.SameBut a s.heap h' → cV P w h' a (fB ns m) → Q true { s with heap := h', toks := s.toks + 1 } := by
      intro h' kO jO
      have := h h' kO jO
      rw [decide_eq_true hm] at this
      exact this
    refine wpAny_bind (Dx _ _ _ ?_)
    split
    · refine wpAny_bind ?_
      rw [hashByValue_scannable 8 (x := .int m tk) rfl]
      refine wpAny_pure (qf (P := P) (w := w) (s := { s with toks := s.toks + 1 }) Dx ho hex hd qg vC Hl sH ?_ (gU.xO _) fun h' kO jO => wpAny_pure (Dy h' kO jO))
      split
      · exact mn
      · exact SetTable.fits_plain_off mn
    · refine wpAny_bind (wpAny_pure ?_)
      simp only [↓reduceIte]
      exact qf (P := P) (w := w) (s := { s with toks := s.toks + 1 }) Dx ho hex hd qg vC Hl sH mn gU fun h' kO jO => wpAny_pure (Dy h' kO jO)
theorem xP {ns : List Int} {m : Int} : (fB ns m).length ≤ ns.length + 1 := by
  unfold fB
  split
  · omega
  · simp
end
noncomputable def dS (ns : List Int) : List Int := ns.foldl fB []
theorem vE (ns : List Int) (m : Int) : dS (ns ++ [m]) = fB (dS ns) m := by
  unfold dS
  rw [List.foldl_append]
  rfl
theorem xQ (ns : List Int) : (dS ns).length ≤ ns.length := by
  unfold dS
  have : ∀ (l acc : List Int), (l.foldl fB acc).length ≤ acc.length + l.length := fun l => by
    induction l with
    | nil => intro acc; simp
    | cons a l ih =>
      intro acc
      rw [List.foldl_cons, List.length_cons]
      have h1 := ih (fB acc a)
      have h2 := @xP acc a
      omega
  simpa using this ns []
section
variable {P : Program} {w : World} {A : Around} {R : Result → Shared → Prop} {I : Addr} {fp wr : List Addr} {G : Array GenState → Array GenState → Prop} {n : Nat} {St : Nat → Shared → Prop}
theorem xR {vs : List Int} {Pv : Nat → Value → Prop} (W : WalksS P w A.in1 I fp wr G vs.length Pv St) (S : Addr) (zy : S ∉ fp) (xS : ∀ (i : Nat) (v : Value), Pv i v → ∃ m t, vs[i]? = some m ∧ v = .int m t) (hb : vs.length + 1 < scanBound) :
    ∀ (k i : Nat) (s : Shared), vs.length - i = k → i ≤ vs.length → St i s → cV P w s.heap S (dS (vs.take i)) →
      (∀ s', Moved (S :: wr) G s s' → cV P w s'.heap S (dS vs) → R (.ok (.ret .none)) s') →
      codeAny (model P w) A (.builtin "set.update.loop" ⟨[.ref S, .ref I], []⟩) R s := by
  have Hm : S ∉ wr := fun h => zy (W.sub _ h)
  have jP : ∀ b ∈ wr, b ∈ S :: wr := fun b hb => List.mem_cons_of_mem _ hb
  intro k
  induction k with
  | zero =>
    intro i s hk hi mq hS hR
    have zz : i = vs.length := by omega
    subst zz
    refine codeAny_builtin F.entry_set_update_loop ?_
    rw [Around.under_plainId F.plain_set_update_loop _]
    show wpAny _ A.in1 (pyNext (.ref I) >>= _) _ _ s
    refine wpAny_bind (W.done s _ _ mq fun s' hm => ?_)
    rw [List.take_length] at hS
    exact wpAny_pure (hR s' (hm.mono jP) (hS.eJ fun o e => hm.heap S _ Hm e))
  | succ k ih =>
    intro i s hk hi mq hS hR
    have c7 : i < vs.length := by omega
    refine codeAny_builtin F.entry_set_update_loop ?_
    rw [Around.under_plainId F.plain_set_update_loop _]
    show wpAny _ A.in1 (pyNext (.ref I) >>= _) _ _ s
    refine wpAny_bind (W.item i s _ _ c7 mq fun v s' hP IV hm => ?_)
    obtain ⟨m, t, iT, rfl⟩ := xS i v hP
    have jO : cV P w s'.heap S (dS (vs.take i)) := hS.eJ fun o e => hm.heap S _ Hm e
    show wpAny _ A.in1 (holding [Value.int m t] (setAdd S (.int m t)) >>= _) _ _ s'
    have mh : (dS (vs.take i)).length + 1 < scanBound := by
      have h1 := xQ (vs.take i)
      rw [List.length_take] at h1
      omega
    refine wpAny_bind (wpAny_holding (vD jO mh fun h' kO Du => ?_))
    have Kh : cV P w h' S (dS (vs.take (i + 1))) := by
      rw [List.take_add_one, iT]
      show cV P w h' S (dS (vs.take i ++ [m]))
      rw [vE]
      exact Du
    refine wpAny_pure ⟨plainId_quiet F.plain_set_update_loop _, ih (i + 1) _ (by omega) c7 (W.frame _ s' _ _ IV (Nat.le_succ _) fun b hb o e => ?_) Kh fun cc IW IX => ?_⟩
    · rw [kO.2 b (fun h : b = S => zy (by rw [← h]; exact hb))]; exact e
    · refine hR cc (Moved.trans W.gtrans ((hm.mono jP).then_heap (Nat.le_succ _) fun b o hb e => ?_) IW) IX
      rw [kO.2 b (fun h : b = S => hb (by rw [h]; exact List.mem_cons_self))]; exact e
end
theorem sub_tuple_set : isSubtype (.type "tuple") (.type "set") = pure false := by rw [isSubtype_type]; kernel_rfl
theorem ng : isSubtype (.type "tuple") (.type "frozenset") = pure false := by rw [isSubtype_type]; kernel_rfl
section
variable {P : Program} {w : World} {A : Around} {E : Value → Shared → Prop} {s : Shared}
noncomputable abbrev fM (w : World) : Obj := { cls := .type "set", dict := none, data := .set #[] 0 (.fresh 0 0 (!w.params.followText "set-order")) }
theorem Ay {h : Heap} : cV P w (h.push (fM w)) h.objs.size [] := ⟨_, #[], 0, _, Heap.get?_push_size _ rfl, ⟨rfl, rfl, rfl⟩, rfl, fun e he => by simp at he, by simp, by simp, by decide, by rfl, rfl, List.Pairwise.nil, rfl⟩
theorem xT (a : Value) {Q₁ : Value → Shared → Prop} (h : Q₁ (.ref s.heap.objs.size) { s with heap := s.heap.push (fM w) }) :
    codeAny (model P w) A (.call (.builtin "set.__new__") ⟨[.type "set", a], []⟩) (wants Q₁ E) s := by
  refine codeAny_of_tree ?_
  show wpAny _ A.in1 (do checkBuiltinCall "set.__new__" ⟨[.type "set", a], []⟩; again (.builtin "set.__new__" ⟨[.type "set", a], []⟩)) _ _ s
  refine wpAny_bind (wpAny_of_eq (F.newCall_set_1 a) (wpAny_pure ⟨plainId_quiet F.plain_set_new _, codeAny_builtin F.entry_set_new ?_⟩))
  rw [Around.under_plainId F.plain_set_new _]
  unfold Builtin.«set.__new__» Builtin.Frozenset.newClass
  have jP := sub_set_self
  obtain ⟨hp, g, d, tk, os⟩ := s
  dsimp only
  wp_walk
  refine wpAny_askSetting (wpAny_pure ?_)
  dsimp only
  simp only [newObj]
  refine wpAny_bind (wpAny_alloc (wpAny_pure ?_))
  exact wpAny_pure h
theorem jQ {T : String} {l : Addr} {itob : Obj} {vs : List Int} {Pv : Nat → Value → Prop} {St : Addr → Nat → Heap → Prop} {Q : Value → Shared → Prop} (hh : A.handled = none)
    (hl : ∃ o, s.heap.get? l = some o) (hT : ∀ s1 : Shared, (∀ o, s.heap.get? l = some o → s1.heap.get? l = some o) → s1.TypeIs (.ref l) T) (h1 : isSubtype (.type T) (.type "set") = pure false) (h2 : isSubtype (.type T) (.type "frozenset") = pure false) (h3 : (Value.type T == Value.type "dict") = false)
    (hit : ∀ (A' : Around) (s1 : Shared) (Q' : Value → Shared → Prop) (E' : Value → Shared → Prop), (∀ o, s.heap.get? l = some o → s1.heap.get? l = some o) → Q' (.ref s1.heap.objs.size) { s1 with heap := s1.heap.push itob } → wpAny (model P w) A' (pyIter (.ref l)) Q' E' s1)
    (hW : ∀ (A' : Around) (I : Addr), A'.handled = none → l ≠ I → Walks P w A' I [I, l] [I] vs.length Pv (St I)) (Ki : ∀ h1 : Heap, (∀ o, s.heap.get? l = some o → h1.get? l = some o) → St h1.objs.size 0 (h1.push itob))
    (xS : ∀ (i : Nat) (v : Value), Pv i v → ∃ m t, vs[i]? = some m ∧ v = .int m t) (hb : vs.length + 1 < scanBound)
    (h : ∀ (h' : Heap) (tk : Nat), cV P w h' s.heap.objs.size (dS vs) → (∀ b o, s.heap.get? b = some o → h'.get? b = some o) → Q (.ref s.heap.objs.size) { s with heap := h', toks := tk }) :
    wpAny (model P w) A (call (.type "set") [.ref l]) Q E s := by
  obtain ⟨c, tl, LR⟩ := F.called_set.mro
  have LA := F.called_set.made
  have jP := F.called_set.sub
  refine wpAny_call (codeAny_of_tree ?_)
  show wpAny _ _ (callAny (.type "set") _) _ _ _
  refine wpAny_pure ⟨Code.quiet_builtin _ (by decide +kernel), codeAny_builtin F.entry_type_call ?_⟩
  rw [Around.under_plain (weight_type_call_type "set" [.ref l] []) rfl]
  have k1 := F.called_set.notType
  have k2 := F.called_set.canCreate
  have L9 := F.typeCall_set_1 (.ref l)
  repeat (any_goals (first | assumption | wp_step))
  refine codeAny_mono (xT (P := P) (w := w) (.ref l) (E := E) (Q₁ := fun obj aw => obj = .ref s.heap.objs.size ∧ aw = { s with heap := s.heap.push (fM w) }) ⟨rfl, rfl⟩) fun r aw hr => ?_
  cases r with
  | error e => exact hr
  | ok fl =>
    cases fl with
    | ret obj =>
      obtain ⟨rfl, rfl⟩ := hr
      have hS : (s.heap.push (fM w)).get? s.heap.objs.size = some { cls := .type "set", dict := none, data := .set #[] 0 (.fresh 0 0 (!w.params.followText "set-order")) } := Heap.get?_push_size _ rfl
      have Kj : Shared.TypeIs { s with heap := s.heap.push (fM w) } (.ref s.heap.objs.size) "set" := ⟨_, hS, rfl⟩
      have kp : ∀ b o, s.heap.get? b = some o → (s.heap.push (fM w)).get? b = some o := fun b o e => Heap.get?_push_of_some _ e
      have sz : (s.heap.push (fM w)).objs.size = s.heap.objs.size + 1 := by rw [Heap.size_push]
      have Ma := F.called_set.init.lookup
      have Mb := F.called_set.init.bind (.ref s.heap.objs.size)
      repeat (any_goals (first | assumption | wp_step))
      refine codeAny_mono (codeAny_call_builtin (R := wants (fun r iy => r = .none ∧ ∃ h' tk, iy = { s with heap := h', toks := tk } ∧ cV P w h' s.heap.objs.size (dS vs) ∧
          (∀ b o, s.heap.get? b = some o → h'.get? b = some o)) E) F.called_set.init.plain F.entry_set_init (check_set_init_1 Kj ?_)) fun IY iy tO => ?_
      · have Md := hT { s with heap := s.heap.push (fM w) } (fun o e => kp l o e)
        unfold Builtin.«set.__init__» noKeywords Builtin.Frozenset.updateFrom
        generalize Kk : pyIter = PI
        wp_walk
        subst Kk
        obtain ⟨ol, Dz⟩ := hl
        have Hn : l < s.heap.objs.size := Heap.lt_size Dz
        refine hit _ { s with heap := s.heap.push (fM w) } _ _ (fun o e => kp l o e) ?_
        refine wpAny_bind (wpAny_runValue ?_)
        have Km : A.in1.in1.in1.handled = none := by simp [hh]
        have IZ : l ≠ (s.heap.push (fM w)).objs.size := by rw [sz]; exact Nat.ne_of_lt (Nat.lt_succ_of_lt Hn)
        have zy : s.heap.objs.size ∉ [(s.heap.push (fM w)).objs.size, l] := by
          rw [sz]; simp only [List.mem_cons, List.not_mem_nil, or_false, not_or]
          exact ⟨Nat.ne_of_lt (Nat.lt_succ_self _), Nat.ne_of_gt Hn⟩
        refine xR ((hW _ (s.heap.push (fM w)).objs.size Km IZ).toS) s.heap.objs.size zy xS hb (vs.length - 0) 0 _ (by omega) (Nat.zero_le _) (Ki (s.heap.push (fM w)) fun o e => kp l o e) (Ay.eJ fun o e => Heap.get?_push_of_some _ e) ?_
        intro s' hm jO
        obtain ⟨h', g', d', Kn, zg⟩ := s'
        have eg : g' = s.gens := hm.gens
        have ed : d' = s.drawn := hm.drawn
        have eo : zg = s.os := hm.os
        subst eg; subst ed; subst eo
        show wpAny _ _ _ _ _ _
        refine wpAny_pure ?_
        show wpAny _ _ (ret Value.none) _ _ _
        refine wpAny_pure ⟨rfl, h', Kn, rfl, jO, fun b o e => ?_⟩
        have zA : b < s.heap.objs.size := Heap.lt_size e
        refine hm.heap b o ?_ (Heap.get?_push_of_some _ (kp b o e))
        simp only [List.mem_cons, List.not_mem_nil, or_false, not_or]
        exact ⟨Nat.ne_of_lt zA, by rw [sz]; exact Nat.ne_of_lt (Nat.lt_succ_of_lt zA)⟩
      · cases IY with
        | error e => exact tO
        | ok FZ =>
          cases FZ with
          | ret r =>
            obtain ⟨rfl, h', tk, rfl, jO, zu⟩ := tO
            repeat (any_goals (first | assumption | wp_step))
            exact h _ _ jO zu
          | _ => exact tO.elim
    | _ => exact hr.elim
end
theorem gB {α : Type} : ∀ {l : List α} {i : Nat} (h : i < l.length), (l[i] :: l.eraseIdx i).Perm l
  | [], i, h => by simp at h
  | x :: l, 0, h => .refl _
  | x :: l, i + 1, h => by
    rw [List.eraseIdx_cons_succ, List.getElem_cons_succ]
    exact (List.Perm.swap _ _ _).trans (.cons _ (gB (by simpa using h)))
noncomputable def sortI (ns : List Int) : List Int := ns.mergeSort fun a b => decide (a ≤ b)
theorem tP {P : Program} {w : World} {h : Heap} {a : Addr} {ns : List Int} (x : cV P w h a ns) : ∃ o, h.get? a = some o := let ⟨o, _, _, _, e, _⟩ := x; ⟨o, e⟩
theorem Az {P : Program} {w : World} {H : Hp} {h : Heap} {a : Addr} {ns : List Int} (x : cV P w h a ns) : bt P w H h a (lb P w a ns) := ⟨x, tP x, fun h1 h2 y k => y.eJ k⟩
theorem AA {X : Cx} {pins : List (Addr × Obj)} {σ : St} {H : Hp} {s : Shared} {a : Addr} {ns : List Int} (I : Inv X pins σ H s) (h : H a = some (lb X.prog X.w a ns)) : cV X.prog X.w s.heap a ns := (I.hok a _ h).1
theorem DA : bootBuiltins "set" = some (.type "set") := by decide +kernel
section
variable {X : Cx}
noncomputable def DB (K : PySem.W.Frag) (H : Hp) (p : Addr) (ns : List Int) : Prop := bQ K H p (ns.map V.int) ∨ bW K H p (ns.map V.int)
noncomputable def qh (P : Program) (w : World) (K : PySem.W.Frag) : List V → Hp → VK → Prop := fun xs H Q => ∃ p ns, xs = [.ref p] ∧ DB K H p ns ∧ ns.length + 1 < scanBound ∧ ∀ l, H l = none → Q (.ref l) (upd H l (lb P w l (dS ns)))
theorem qi {ns : List Int} {us : List Value} (r : Vals (ns.map V.int) us) : ∀ (i : Nat) (v : Value), us.toArray[i]? = some v → ∃ m t, ns[i]? = some m ∧ v = .int m t := fun i v h => by
  have hl := r.length
  have h' : us[i]? = some v := by simpa using h
  have hi : i < us.length := (List.getElem?_eq_some_iff.mp h').1
  have dR : i < ns.length := by rw [List.length_map] at hl; omega
  obtain ⟨u, e, q⟩ := r.get (i := i) (x := V.int ns[i]) (by rw [List.getElem?_map, List.getElem?_eq_getElem dR]; rfl)
  rw [h'] at e; cases e
  obtain ⟨t, rfl⟩ := q
  exact ⟨_, t, List.getElem?_eq_getElem dR, rfl⟩
theorem vF (hc : X.calm = true) : cL X (.type "set") (qh X.prog X.w X.K) := by
  intro pins s σ H xs us Q I r h
  obtain ⟨p, ns, rfl, hq, hb, q⟩ := h
  obtain ⟨u, rfl, rx⟩ := vals1 r
  cases rx
  have fin : ∀ (h' : Heap) (tk : Nat), cV X.prog X.w h' s.heap.objs.size (dS ns) → (∀ b o, s.heap.get? b = some o → h'.get? b = some o) → EP X pins σ Q (.ref s.heap.objs.size) { s with heap := h', toks := tk } := fun h' tk hM hk =>
    ⟨.ref s.heap.objs.size, _, I.laid (t' := tk) hk (Nat.le_refl _) (Az hM), rfl, q _ (I.hok.fresh (Nat.le_refl _))⟩
  have hh := I.ok.hd hc
  rcases hq with hq | hq
  · obtain ⟨its, rv, pl, hz⟩ := I.list hq
    have hl : its.toArray.size = ns.length := by rw [List.size_toArray, ← rv.length, List.length_map]
    obtain ⟨o, ho, gy, n, hd⟩ := pl.isList
    refine jQ (T := "list") (vs := ns) (itob := { cls := .type "list_iterator", data := .fields #[.ref p, .int 0 0] }) (Pv := fun i v => its.toArray[i]? = some v) (St := fun I i h => h.IsListIter I p i ∧ h.IsList p its.toArray) hh ⟨o, ho⟩ (fun s1 k => ⟨o, k o ho, gy⟩) F.sub_list_set F.sub_list_frozenset (by decide)
      (fun A' s1 Q' E' k DC => wpAny_pyIter_list ⟨o, k o ho, gy, n, hd⟩ DC) (fun A' I' hA iQ => hl ▸ Walks.list hA I' p iQ its.toArray) (fun h1 k => ⟨⟨_, Heap.get?_push_size _ rfl, rfl, rfl⟩, ⟨o, Heap.get?_push_of_some _ (k o ho), gy, n, hd⟩⟩) (qi rv) hb fin
  · obtain ⟨its, rv, pl, hz⟩ := I.tuple hq
    have hl : its.toArray.size = ns.length := by rw [List.size_toArray, ← rv.length, List.length_map]
    obtain ⟨o, ho, gy, n, hd⟩ := pl
    refine jQ (T := "tuple") (vs := ns) (itob := { cls := .type "tuple_iterator", data := .fields #[.ref p, .int 0 0] }) (Pv := fun i v => its.toArray[i]? = some v) (St := fun I i h => h.IsTupleIter I p i ∧ h.IsTuple p its.toArray) hh ⟨o, ho⟩ (fun s1 k => ⟨o, k o ho, gy⟩) sub_tuple_set ng (by decide)
      (fun A' s1 Q' E' k DC => wpAny_pyIter_tuple ⟨o, k o ho, gy, n, hd⟩ DC) (fun A' I' hA iQ => hl ▸ Walks.tuple hA I' p iQ its.toArray) (fun h1 k => ⟨⟨_, Heap.get?_push_size _ rfl, rfl, rfl⟩, ⟨o, Heap.get?_push_of_some _ (k o ho), gy, n, hd⟩⟩) (qi rv) hb fin
noncomputable def zB (P : Program) (w : World) : List V → Hp → VK → Prop := fun xs H Q => ∃ p ns, xs = [.ref p] ∧ H p = some (lb P w p ns) ∧ Q (.int ns.length) H
theorem vG : cL X (.builtin "len") (zB X.prog X.w) := by
  intro pins s σ H xs us Q I r h
  obtain ⟨p, ns, rfl, hp, q⟩ := h
  obtain ⟨u, rfl, rx⟩ := vals1 r
  cases rx
  obtain ⟨o, es, ep, t, ho, hex, hd, ox, Ko, hn, hb, hf, ht⟩ := AA I hp
  have hlen : es.size = ns.length := by rw [← Array.length_toList, ← Ko.length_eq, List.length_map]
  have mr : es.size < 4096 := hb
  refine call_len_set ho hex hd hf (by omega) ⟨.int ns.length, H, I.tok _, ⟨_, by rw [hlen]⟩, q⟩
end
noncomputable def DE (n : Nat) : List Int := (List.range n).map fun i => ((i : Nat) : Int)
section
variable {X : Cx}
theorem tQ {K : PySem.W.Frag} (h : X.K = K) (hc : X.calm = true) : cL X (.type "set") (qh X.prog X.w K) := h ▸ vF hc
end
theorem bt.there {P : Program} {w : World} {H : Hp} {h : Heap} {a : Addr} {o : HO} (x : bt P w H h a o) : ∃ u, h.get? a = some u := by
  cases o with
  | lst xs => obtain ⟨_, _, _, _, e⟩ := x; exact ⟨_, e⟩
  | tup xs => obtain ⟨_, _, _, ob, e, _⟩ := x; exact ⟨_, e⟩
  | dK bL => obtain ⟨_, _, _, _, o, _, _, e, _⟩ := x; exact ⟨_, e⟩
  | dT bL => obtain ⟨_, _, _, _, o, _, _, e, _⟩ := x; exact ⟨_, e⟩
  | set S n => obtain ⟨o, _, _, _, e, _⟩ := x; exact ⟨_, e⟩
  | ins C dx fs => obtain ⟨_, _, _, e, _⟩ := x; exact ⟨_, e⟩
  | own y => obtain ⟨_, e⟩ := x; exact ⟨_, e⟩
  | xd fs => obtain ⟨_, ⟨_, _, _, e, _⟩, _⟩ := x; exact ⟨_, e⟩
  | yX lo hi => obtain ⟨_, _, _, e⟩ := x; exact ⟨_, e⟩
  | eD ob u => obtain ⟨e, _⟩ := x; exact ⟨_, e⟩
  | b6 ps => exact ⟨_, x⟩
  | lam ps => exact ⟨_, x⟩
  | met f y => exact ⟨_, x⟩
  | ext φ => obtain ⟨_, ⟨_, e⟩, _⟩ := x; exact ⟨_, e⟩
noncomputable def aK (P : Program) (w : World) : fk := fun outer H s E e s' => ∃ (a C t : Addr) (B : Heap) (H' : Hp), e = .ref a ∧ s'.os = s.os ∧ Gn s.gens.size s'.gens ∧ Heap.FlyingW B outer a (.ref C) (.ref t) s'.heap ∧
  (∀ b o, s.heap.get? b = some o → b ∉ eE outer → ∃ o', B.get? b = some o') ∧ (∀ b u, H' b = some u → ∃ o', B.get? b = some o') ∧ Un (eE outer) [] H H' s.heap s'.heap ∧ da P w H' s'.heap ∧ E (.ref C) none H'
section
variable {X : Cx} {pins : List (Addr × Obj)} {σ : St} {H H1 : Hp} {s s1 : Shared} {B h' : Heap}
theorem Inv.jR (I : Inv X pins σ H s) {b : Addr} (h1 : b ≠ X.env.locals) (h2 : b ∉ X.fs) : b ∉ eE X.stack := fun z => by
  rcases List.mem_cons.mp (I.gO b z) with q | q
  · exact h1 q
  · exact h2 q
theorem Inv.jd (I : Inv X pins σ H s) {b : Addr} {o : Obj} (e : X.s₀.heap.get? b = some o) : b ≠ X.env.locals := fun z => by
  have l := Heap.lt_size e
  have := I.ok.above
  rw [← z] at this
  exact absurd l (Nat.not_lt.mpr this)
theorem Inv.zD (I1 : Inv X pins σ H1 s1) (I : Inv X pins σ H s) (c1 : ∀ b o, s1.heap.get? b = some o → b ∉ eE X.stack → ∃ o', B.get? b = some o') (c2 : ∀ b u, H b = some u → ∃ o', B.get? b = some o')
    (k : B.StaysIn s.heap) (k' : B.StaysIn h') (up : s.heap.UpToSlots h') : Inv X pins σ H { s with heap := h' } := by
  have same : ∀ b o', (∃ o2, B.get? b = some o2) → s.heap.get? b = some o' → h'.get? b = some o' := fun b o' ⟨o2, e⟩ q => by
    have z := k b o2 e
    rw [q] at z
    cases z
    exact k' b _ e
  refine ⟨I.ok, I.os, I.bare, ⟨fun b o q n hb hx => ?_, fun b o q n hb hx => ?_, I.base.free, fun b o q hx => ?_, I.base.tups, I.base.frzs, I.base.tbls⟩, ?_, fun x c e => ?_, I.free, I.freeC, fun p hp => ?_, fun a o e => ?_, I.len⟩
  · exact same b o (c1 b o (I1.base.keep b o q n hb hx) (I.jR (I.jd q) hb)) (I.base.keep b o q n hb hx)
  · obtain ⟨sl, e⟩ := I.base.slot b o q n hb hx
    obtain ⟨_, o2, e2, nf⟩ := I.funs.mem hb
    rw [e] at e2
    cases e2
    obtain ⟨oa, e4⟩ := up b { o with slots := sl } e nf
    exact ⟨oa, e4⟩
  · obtain ⟨o', e⟩ := I.base.there b o q hx
    by_cases hb : b ∈ X.fs
    · obtain ⟨_, o2, e2, nf⟩ := I.funs.mem hb
      obtain ⟨sl, e3⟩ := up b _ e2 nf
      exact ⟨_, e3⟩
    · obtain ⟨o1, q1⟩ := I1.base.there b o q hx
      exact ⟨o', same b o' (c1 b o1 q1 (I.jR (I.jd q) hb)) e⟩
  · obtain ⟨m, hn, hl⟩ := I.loc
    refine ⟨m, up.ns hn, fun i x v a b c => ?_⟩
    obtain ⟨u, r, l⟩ := hl i x v a b c
    refine ⟨u, r, ?_⟩
    rcases l with l | ⟨kd, c, ec, o, ho, hd⟩
    · exact .inl l
    · obtain ⟨sl, e⟩ := up c o ho fun vs z => by rw [hd] at z; cases z
      exact .inr ⟨kd, c, ec, _, e, hd⟩
  · obtain ⟨v, o, ho, hd⟩ := I.cell x c e
    obtain ⟨sl, e⟩ := up c o ho fun vs z => by rw [hd] at z; cases z
    exact ⟨v, _, e, hd⟩
  · obtain ⟨p1, p2, p3, p4, p5⟩ := I.pin p hp
    exact ⟨same p.1 p.2 (c1 p.1 p.2 (I1.pin p hp).1 (I.jR p3 p4)) p1, p2, p3, p4, p5⟩
  · refine (I.hok a o e).eJ (fun b u hb q => ?_) (fun _ q => q) fun _ _ q => q
    rcases hb with z | z
    · exact same b u (c2 b o (by rw [z]; exact e)) q
    · exact same b u (c2 b _ z) q
end
section
variable {P : Program} {w : World} {K : PySem.W.Frag} {mg : Str → Option Value} {base : Heap} {N : List Str} {qual : Str} {scope : Scope} {f : Addr} {cd : Value} {A : Around} {outer : List Env} {s0 : Shared} {H0 : Hp} {E : XK}
theorem bY : Passes (aK P w) (e8 (aK P w) P w K mg base N qual scope f cd A outer s0 H0 E) E := by
  intro pins σ H s e s' I h
  obtain ⟨a, C, t, B, H', rfl, os, gn, fl, c1, c2, un, hok, q⟩ := h
  have I' := I.o7 (ch := []) os un hok gn (fun b z => absurd z (by simp))
  refine wpAny_leaves_onW (cls := .ref C) (a0 := .ref t) I.ok.frames rfl fl fun h' zE up => ?_
  have I2 := I.zD I' c1 c2 fl.1 zE.1 up
  refine ⟨a, C, t, B, H', rfl, I2.os, I2.bare, zE, fun b o e n => ?_, c2, I2.base, I2.hok, q⟩
  obtain ⟨o1, e1⟩ := I.base.there b o e (fun z => absurd (show b ∈ ([] : List Addr) from z) (by simp))
  exact c1 b o1 e1 (I.jR (I.jd e) n)
noncomputable def Raises (X : Cx) (E : XK) : Prop := ∀ (pins : List (Addr × Obj)) (σ : St) (H : Hp) (s : Shared) (C : Addr) (h' : Heap) (a : Addr) (vs : List Value), Inv X pins σ H s → Heap.MadeExcOf s.heap h' a (.ref C) vs → E (.ref C) none H → X.xe (.ref a) { s with heap := h' }
theorem DF : Raises (e8 (aK P w) P w K mg base N qual scope f cd A outer s0 H0 E) E := by
  intro pins σ H s C h' a vs I hx q
  have c1 : ∀ b o, s.heap.get? b = some o → b ∉ eE (e8 (aK P w) P w K mg base N qual scope f cd A outer s0 H0 E).stack → ∃ o', (PySem.W.hideAll s.heap (eE (e8 (aK P w) P w K mg base N qual scope f cd A outer s0 H0 E).stack)).get? b = some o' :=
    fun b o e n => ⟨o, PySem.W.hideAll_get _ e n⟩
  have c2 : ∀ b u, H b = some u → ∃ o', (PySem.W.hideAll s.heap (eE (e8 (aK P w) P w K mg base N qual scope f cd A outer s0 H0 E).stack)).get? b = some o' := fun b u hu => by
    obtain ⟨o, e⟩ := (I.hok b u hu).there
    exact c1 b o e fun z => by rw [I.mY b z] at hu; cases hu
  have st : (PySem.W.hideAll s.heap (eE (e8 (aK P w) P w K mg base N qual scope f cd A outer s0 H0 E).stack)).StaysIn s.heap := fun b o e => PySem.W.of_hideAll _ e
  refine wpAny_leaves_madeW (cls := .ref C) I.ok.frames rfl st (PySem.W.funFrames_hide I.stack fun env he b hb => List.mem_filterMap.mpr ⟨env, he, hb⟩) hx fun Mf t fl _ _ up => ?_
  have I2 := I.zD I c1 c2 st fl.1 ((Heap.UpToSlots.of_keeps hx.keeps).trans up)
  refine ⟨a, C, t, _, H, rfl, I2.os, I2.bare, fl, fun b o e n => ?_, c2, I2.base, I2.hok, q⟩
  obtain ⟨o1, e1⟩ := I.base.there b o e (fun z => absurd (show b ∈ ([] : List Addr) from z) (by simp))
  exact c1 b o1 e1 (I.jR (I.jd e) n)
end
theorem AB {K : PySem.W.Frag} {h : Heap} {C : Addr} {oy : List Value} {newId : String} (X : K.In h) (q : PySem.W.excIn K C oy newId = true) :
    ∃ bm Nn nm qn bs hd sn sub ab col dd k0 k1 k2 k3 k5 mN, h.get? C = some (excClassObj nm qn C Nn bs bm hd sn sub ab col dd k0 k1 k2 k3 k5 newId) ∧ h.Ns Nn mN ∧ mN "__init__" = none ∧ OwnTail h oy bm := by
  unfold PySem.W.excIn at q
  split at q
  case h_2 => cases q
  case h_1 dd cd sl ho =>
    split at q
    case h_2 => cases q
    case h_1 C' bm k0 k1 k2 k3 n k5 hm hs =>
      rw [Bool.and_eq_true, Bool.and_eq_true, Bool.and_eq_true, Bool.and_eq_true, Bool.and_eq_true] at q
      obtain ⟨⟨⟨⟨⟨q1, q2⟩, q3⟩, q4⟩, q5⟩, q6⟩ := q
      have e1 : C' = C := beq_iff_eq.mp q1
      have e2 : n = newId := beq_iff_eq.mp q2
      have e3 : cd.hasDel = false := by simpa using q3
      subst e1 e2
      obtain ⟨nm, bs, mro, ns, qn, hd, sn, sub, ab, col, del⟩ := cd
      dsimp only at hm e3 q5 q6
      subst hm e3
      have es : sl = #[k0, k1, k2, k3, some (.builtin n), k5] := by
        cases sl with
        | mk l => exact congrArg Array.mk hs
      subst es
      exact ⟨bm, ns, nm, qn, bs, hd, sn, sub, ab, col, dd, k0, k1, k2, k3, k5, _, X _ _ ho, Heap.Ns.of_isNs (PySem.W.isNs_of_in X q5), PySem.W.nsMap_none_of_in X q5 (beq_iff_eq.mp q6), PySem.W.tail_of_in X q4⟩
section
variable {X : Cx} {x : Str} {C : Addr} {iB : Expr} {rest : List Expr} {t : TA} {oy : List Value} {B newId qj : String} {E : XK} {np bg pos : Pos}
noncomputable def DG (C : Addr) (E : XK) (t : TA) : TS := fun _ σ H => t σ H fun vs H1 => vs.length ≤ sizeLine ∧ E (.ref C) none H1
theorem xU (O : PySem.W.excIn X.K C oy newId = true) (FB : ExcBaseFacts B newId qj oy) (hc : X.calm = true) (hR : Raises X E) (hg : Gl X x) (hm : X.mg x = some (.ref C)) (ha : PA X (iB :: rest) t)
    (fy : (x == ("__debug__" : Str)) = false := by decide) (he : starEach (iB :: rest) X.env = (false, eval iB X.env) :: starEach rest X.env := by rfl) (fm : (backTo bg (starEach rest X.env)).any (·.1) = false := by rfl) :
    PS X (.Raise (some (.Call (.Name x np) (iB :: rest) [] bg)) none pos) (DG C E t) := by
  refine ⟨fun pins s σ H D I h => ?_⟩
  obtain ⟨bm, Nn, nm, qn, bs, hd, sn, sub, ab, col, dd, k0, k1, k2, k3, k5, mN, hC, hN, Kp, T⟩ := AB I.ok.mod.kin O
  have hp : (backTo bg (starEach (iB :: rest) X.env)).any (·.1) = false := by
    rw [he]
    exact fm
  have sI := ha bg pins s σ H _ I h
  rw [he] at sI
  refine wpAny_Raise_call_subT (C := C) (nm := nm) (q := qn) (N := Nn) (bs := bs) (bm := bm) (hdct := hd) (sn := sn) (sub := sub) (ab := ab) (col := col) (dd := dd) (k0 := k0) (k1 := k1) (k2 := k2) (k3 := k3) (k5 := k5) FB (mN := mN)
    (T.hasType FB.hasBase) (I.ok.hd hc) hp Kp (ki I hg hm ⟨rfl, ?_⟩ fy)
  rw [he]
  refine Calls.evalArgs_plain (thn sI fun us s2 ⟨vs, H2, I2, r, l, q⟩ => ?_)
  exact ⟨rfl, by rw [← r.length]; exact l, I2.bk _ _ hC, hN.keeps I2.bk, T.keeps I2.bk, fun h' a hx => hR pins σ H2 s2 C h' a us I2 hx q⟩
end
end L2
namespace L2
open PySem PySem.Spec PyProof.Rows PySem.W Builtin Builtin.ObjectAttr Builtin.Getset_descriptor
noncomputable def ExcAt (C a : Addr) (h : Heap) : Prop := ∃ o vs, h.get? a = some o ∧ o.cls = .ref C ∧ o.data = .fields vs
noncomputable def lg (C a : Addr) : HO := .ext (ExcAt C a)
theorem ExcAt.eJ {C a : Addr} {h h' : Heap} (x : ExcAt C a h) (k : ∀ o, h.get? a = some o → h'.get? a = some o) : ExcAt C a h' := let ⟨o, vs, e, c, d⟩ := x; ⟨o, vs, k o e, c, d⟩
theorem AD {P : Program} {w : World} {H : Hp} {h : Heap} {C a : Addr} (x : ExcAt C a h) : bt P w H h a (lg C a) := ⟨x, let ⟨o, _, e, _⟩ := x; ⟨o, e⟩, fun _ _ y k => y.eJ k⟩
structure dE (K : Frag) (C : Addr) : Prop where
  cls : (clsIn K C).isSome = true
  ga : findIn K (.ref C) "__getattribute__" = some (some (.builtin "BaseException.__getattribute__"))
  gt : findIn K (.ref C) "__getattr__" = some none
  cl : findIn K (.ref C) "__class__" = some (some (.builtin "object.__class__"))
  gg : specialIn K (.builtin "object.__class__") "__get__" = some (some (.builtin "getset_descriptor.__get__"))
  tk : takesIn K (.builtin "object.__class__") = some true
  ob : mroIn K C (.type "object") = some true
  be : mroIn K C (.type "BaseException") = some true
section
variable {K : Frag} {C a : Addr} {M : Model} {h : Heap}
theorem gV (x : ExcAt C a h) : Looks M h (typeOf (.ref a)) (.ref C) := by
  obtain ⟨o, vs, h1, h2, h3⟩ := x
  exact h2 ▸ (Looks.ld h1).andThen .now
theorem xV (X : K.In h) (E : dE K C) : Looks M h (find (.ref a) (.ref C) "__class__") (.bind (.builtin "getset_descriptor.__get__") (.builtin "object.__class__")) := by
  refine (looks_findIn X E.cl).andThen (Looks.andThen (show Looks M h (getOf (some (.builtin "object.__class__"))) (some (.builtin "getset_descriptor.__get__")) from looks_specialIn X E.gg) ?_)
  have l3 : Looks M h (dataDescriptor? (some (.builtin "object.__class__")) (some (.builtin "getset_descriptor.__get__"))) (some (.builtin "getset_descriptor.__get__", .builtin "object.__class__")) := (looks_takesIn X E.tk).andThen .now
  exact l3.andThen (Looks.tag .now)
theorem tR (X : K.In h) (E : dE K C) : Looks M h (isType (.ref C)) true := by
  have z := E.cls
  unfold clsIn at z
  split at z
  case h_2 => cases z
  case h_1 ho =>
    intro A Q E s k q
    unfold isType loadHead
    exact wpAny_bind (m := loadPart _ _) (wpAny_loadPart (k _ _ (X _ _ ho)) (wpAny_pure q))
theorem vH (X : K.In h) (E : dE K C) {tp : Addr} {dd : Option Addr} {its : List Value} {n : Nat} {sl : Array (Option Value)} (e : h.get? tp = some ⟨.type "tuple", dd, .seq its.toArray n, sl⟩) : (Value.ref C == Value.ref tp) = false := by
  refine Bool.eq_false_iff.mpr fun q => ?_
  cases Value.ref.inj (beq_iff_eq.mp q)
  have z := E.cls
  unfold clsIn at z
  split at z
  case h_2 => cases z
  case h_1 ho => cases (X _ _ ho).symm.trans e
end
section
variable {K : Frag} {C a : Addr} {prog : Program} {w : World} {A : Around} {s : Shared} {R : Result → Shared → Prop} {EE : Value → Shared → Prop}
theorem oM {tp : Value} (X : K.In s.heap) (E : dE K C) (x : ExcAt C a s.heap) (q : R (.ok (.ret (.ref C))) s) : codeAny (model prog w) A (.call (.builtin "getset_descriptor.__get__") ⟨[.builtin "object.__class__", .ref a, tp], []⟩) R s := by
  obtain ⟨hh, g, dr, t, os⟩ := s
  have L0 := gV (M := model prog w) x
  have L1 := looks_mroIn (M := model prog w) X E.ob
  have ck := KF.slot_gs.check (model prog w)
  refine codeAny_call_builtin KF.slot_gs.plain KF.entry_gs (ck _ _ _ _ _ _ _ KF.type_class (KF.args_gs _ _ _) ?_)
  unfold Builtin.«getset_descriptor.__get__» descrGet
  rw [dga_obj]
  refine wpAny_bind (m := pure _) (wpAny_pure ?_)
  unfold descrGetter descrCheckInstance descrNameAndClass
  unfold isInstance
  simp only [KF.owner_class]
  repeat lk
  refine ⟨Code.quiet_builtin _ (by decide +kernel), codeAny_builtin KF.entry_class ?_⟩
  unfold Builtin.«object.__class__»
  unfold shownTypeOf
  repeat lk
  exact q
theorem qk {nv : Value} {Q : Unit → Shared → Prop} (X : K.In s.heap) (E : dE K C) (x : ExcAt C a s.heap) (q : Q () s) : wpAny (model prog w) A (checkBuiltinCall "BaseException.__getattribute__" ⟨[.ref a, nv], []⟩) Q EE s := by
  have e1 : builtinKind "BaseException.__getattribute__" = some .slot := by decide +kernel
  have e2 : splitId "BaseException.__getattribute__" = some ("BaseException", "__getattribute__") := by decide +kernel
  have LC := F.args_bexc_ga (.ref a) nv
  have L0 := gV (M := model prog w) x
  have L1 := looks_mroIn (M := model prog w) X E.be
  obtain ⟨hh, g, dr, t, os⟩ := s
  simp only [checkBuiltinCall, e1, e2]
  refine wpAny_bind ?_
  unfold isInstance
  repeat lk
  exact q
theorem nh {Q : Option Value → Shared → Prop} (X : K.In s.heap) (E : dE K C) (x : ExcAt C a s.heap) (q : Q (some (.ref C)) { s with toks := s.toks + 1 }) : wpAny (model prog w) A (getAttr? (.ref a) "__class__") Q EE s := by
  obtain ⟨hh, g, d, t, os⟩ := s
  have L0 := gV (M := model prog w) x
  have L1 := looks_findIn (M := model prog w) X E.ga
  have L2 := looks_findIn (M := model prog w) X E.gt
  have iQ : (onTheHeap (Value.ref C) && Value.builtin "BaseException.__getattribute__" == Value.builtin "object.__getattribute__") = false := by
    rw [show (Value.builtin "BaseException.__getattribute__" == Value.builtin "object.__getattribute__") = false from by decide +kernel]
    rfl
  unfold getAttr? getAttrBy?
  refine wpAny_bind (wpAny_mkText (wpAny_bind (m := (getAttrBy _ _ _).attempt) (wpAny_attempt ?_)))
  unfold getAttrBy
  refine wpAny_holding (wpAny_bind (m := typeOf _) (L0.at (wpAny_bind (m := typeLookup _ _) (L1.at ?_))))
  simp only [iQ, Bool.false_eq_true, if_false]
  unfold getAttrByItsOwn hookBefore
  refine wpAny_bind (L2.at ?_)
  refine wpAny_bind (wpAny_attempt (wpAny_holding ?_))
  unfold callGetattribute boundAndCalled
  simp only [Bool.false_and, Bool.false_eq_true, if_false]
  refine wpAny_bind (m := bindSpecial _ _) (wpAny_of_eq (F.attr_ValueError.ga.bind (.ref a)) ?_)
  have L3 := xV (M := model prog w) (a := a) X E
  refine wpAny_call (codeAny_call_builtin F.attr_ValueError.ga.plain F.entry_bexc_ga (qk X E x ?_))
  unfold Builtin.«object.__getattribute__»
  iterate 9 lk
  refine wpAny_bind (m := attrName _) (wpAny_pure (wpAny_bind (m := typeOf _) (L0.at (wpAny_bind (m := find _ _ _) (L3.at ?_)))))
  show wpAny _ _ (holding [Value.builtin "object.__class__"] (call (.builtin "getset_descriptor.__get__") [.builtin "object.__class__", .ref a, .ref C]) >>= ret) _ _ _
  refine wpAny_bind (m := holding _ _) (wpAny_holding (wpAny_call (oM X E x ?_)))
  exact wpAny_pure (handed_on rfl (wpAny_pure q))
end
theorem lh {K : Frag} {C a : Addr} (E : dE K C) : KitX K (.ref a) (.ref C) (ExcAt C a) where
  ty := fun _ _ _ x => gV x
  it := fun _ _ X _ => tR X E
  ne := fun _ _ _ _ _ _ X e => vH X E e
  ca := fun X x q => nh X E x q
theorem oz : ∀ {Ds : List Addr} {us : List Value}, Vals (Ds.map V.ref) us → us = Ds.map Value.ref
  | [], _, .nil => rfl
  | D :: Ds, _, .cons r t => by
    cases (show _ = Value.ref D from r)
    rw [oz t]
    rfl
section
variable {X : Cx}
noncomputable def I0 (K : Frag) : List V → Hp → VK → Prop := fun xs H Q => ∃ a C b, H a = some (lg C a) ∧ dE K C ∧
  ((∃ D, xs = [.ref a, .ref D] ∧ kitOne K (.ref C) (.ref D) = some b) ∨ (∃ T, xs = [.ref a, .ty T] ∧ kitOne K (.ref C) (.type T) = some b) ∨ ∃ (tp : Addr) (Ds : List Addr), xs = [.ref a, .ref tp] ∧ H tp = some (.tup (Ds.map V.ref)) ∧ kitAny K (.ref C) (Ds.map Value.ref) = some b) ∧ Q (.bl b) H
theorem xW {K : Frag} (hK : X.K = K) : cL X (.builtin "isinstance") (I0 K) := by
  subst hK
  intro pins s σ H xs us Q I r h
  obtain ⟨a, C, b, ha, E, h, q⟩ := h
  have x : ExcAt C a s.heap := (I.hok a _ ha).1
  have fin : ∀ tk, EP X pins σ Q (.bool b) { s with toks := tk } := fun tk => ⟨.bl b, H, I.tok tk, rfl, q⟩
  rcases h with ⟨D, rfl, e⟩ | ⟨T, rfl, e⟩ | ⟨tp, Ds, rfl, ht, e⟩
  · obtain ⟨u, w', rfl, r1, r2⟩ := vals2 r
    cases (show u = Value.ref a from r1)
    cases (show w' = Value.ref D from r2)
    exact kia_one (lh E) I.eF x e (fun z => nomatch z) fin
  · obtain ⟨u, w', rfl, r1, r2⟩ := vals2 r
    cases (show u = Value.ref a from r1)
    cases (show w' = Value.type T from r2)
    exact kia_one (lh E) I.eF x e (fun z => nomatch z) fin
  · obtain ⟨u, w', rfl, r1, r2⟩ := vals2 r
    cases (show u = Value.ref a from r1)
    cases (show w' = Value.ref tp from r2)
    obtain ⟨_, its, rv, ob, ho, hc, n, hd, _⟩ := I.hok tp _ ht
    have ei := oz rv
    subst ei
    obtain ⟨c, dd, dt, sl⟩ := ob
    dsimp only at hc hd
    subst hc hd
    exact kia_tup (lh E) I.eF x ho e (fun z => nomatch z) fin
end
end L2
namespace L2
open PySem PySem.Spec PyProof.Rows PySem.W
noncomputable def blank (n : Nat) : St := List.replicate n none
theorem ql {n i : Nat} {v : V} (h : (blank n)[i]? = some (some v)) : False := by
  unfold blank at h
  rw [List.getElem?_replicate] at h
  split at h <;> cases h
noncomputable abbrev Cx.je (X : Cx) (T : Value → Shared → Prop) (pn : List (Addr × Obj)) : Cx := { X with xe := T, pn := pn }
noncomputable abbrev Cx.suite (X : Cx) (a : Addr) : Cx := { X with A := X.A.mark (some (.ref a)), calm := false, xe := fun _ _ => False }
section
variable {X : Cx} {pins pins' : List (Addr × Obj)} {σ : St} {H : Hp} {s : Shared} {T : Value → Shared → Prop}
theorem Inv.je (I : Inv X pins σ H s) (T : Value → Shared → Prop) : Inv (X.je T (X.pn ++ pins)) [] σ H s :=
  ⟨⟨I.ok.mod, I.ok.kind, I.ok.glob, I.ok.blt, I.ok.above, I.ok.inj, I.ok.has, I.ok.cab, I.ok.hd, I.ok.frames, I.ok.stk, I.ok.exf, I.ok.bs, I.ok.bsz, I.ok.noex, I.ok.exfs, I.ok.funs, I.ok.frf⟩,
    I.os, I.bare, I.base, I.loc, I.cell, I.free, I.freeC, fun p hp => I.pin p (by simpa using hp), I.hok, I.len⟩
theorem Inv.jS (J : Inv (X.je T (X.pn ++ pins)) pins' σ H s) : Inv X pins σ H s :=
  ⟨⟨J.ok.mod, J.ok.kind, J.ok.glob, J.ok.blt, J.ok.above, J.ok.inj, J.ok.has, J.ok.cab, J.ok.hd, J.ok.frames, J.ok.stk, J.ok.exf, J.ok.bs, J.ok.bsz, J.ok.noex, J.ok.exfs, J.ok.funs, J.ok.frf⟩,
    J.os, J.bare, J.base, J.loc, J.cell, J.free, J.freeC, fun p hp => J.pin p (List.mem_append_left _ hp), J.hok, J.len⟩
theorem Inv.suite (I : Inv X pins σ H s) (a : Addr) : Inv (X.suite a) pins σ H s :=
  ⟨⟨I.ok.mod, I.ok.kind, I.ok.glob, I.ok.blt, I.ok.above, I.ok.inj, I.ok.has, I.ok.cab, (fun z => nomatch z), I.ok.frames, I.ok.stk, I.ok.exf, I.ok.bs, I.ok.bsz, I.ok.noex, I.ok.exfs, I.ok.funs, I.ok.frf⟩,
    I.os, I.bare, I.base, I.loc, I.cell, I.free, I.freeC, I.pin, I.hok, I.len⟩
theorem Inv.AF {a : Addr} (ok : X.Ok) (J : Inv (X.suite a) pins σ H s) : Inv X pins σ H s :=
  ⟨ok, J.os, J.bare, J.base, J.loc, J.cell, J.free, J.freeC, J.pin, J.hok, J.len⟩
theorem Inv.blank (I : Inv X pins σ H s) : Inv X pins (blank X.N.length) H s := by
  refine ⟨I.ok, I.os, I.bare, I.base, ?_, I.cell, I.free, I.freeC, I.pin, I.hok, by unfold L2.blank; simp⟩
  obtain ⟨m, hn, _⟩ := I.loc
  exact ⟨m, hn, fun i x v _ e => (ql e).elim⟩
theorem Inv.lost {h' : Heap} {m' : Str → Option Value} {t' : Nat} (I : Inv X pins σ H s) (hn : h'.Ns X.env.locals m') (sb : Heap.SameBut X.env.locals s.heap h') : Inv X pins (L2.blank X.N.length) H { s with heap := h', toks := t' } := by
  have mv : ∀ b o, b ≠ X.env.locals → s.heap.get? b = some o → h'.get? b = some o := fun b o n e => (sb.2 b n).trans e
  refine ⟨I.ok, I.os, I.bare, ⟨fun b o q n hb hx => mv b o (I.jd q) (I.base.keep b o q n hb hx), fun b o q n hb hx => ?_, I.base.free, fun b o q hx => ?_, I.base.tups, I.base.frzs, I.base.tbls⟩,
    ⟨m', hn, fun i x v _ e => (ql e).elim⟩, fun x c e => ?_, I.free, I.freeC, fun p hp => ?_, fun a o e => ?_, by unfold L2.blank; simp⟩
  · obtain ⟨sl, e⟩ := I.base.slot b o q n hb hx
    exact ⟨sl, mv b _ (I.jd q) e⟩
  · obtain ⟨o', e⟩ := I.base.there b o q hx
    exact ⟨o', mv b _ (I.jd q) e⟩
  · obtain ⟨v, o, ho, hd⟩ := I.cell x c e
    exact ⟨v, o, mv c o (I.nS x c e) ho, hd⟩
  · obtain ⟨p1, p2, p3, p4, p5⟩ := I.pin p hp
    exact ⟨mv _ _ p3 p1, p2, p3, p4, p5⟩
  · refine (I.hok a o e).eJ (fun b u hb q => mv b u (fun z => ?_) q) (fun _ q => q) fun _ _ q => q
    have fr := I.free
    rw [← z] at fr
    rcases hb with y | y
    · rw [y, e] at fr; cases fr
    · rw [y] at fr; cases fr
theorem Inv.F0 {a : Addr} {o : HO} (I : Inv X pins σ H s) (n0 : H a = none) (n1 : X.s₀.heap.get? a = none) (n2 : a ≠ X.env.locals) (n3 : ∀ x c, X.env.cells.lookup x = some c → c ≠ a) (n4 : ∀ p ∈ X.pn ++ pins, p.1 ≠ a)
    (ob : bt X.prog X.w (upd H a o) s.heap a o) : Inv X pins σ (upd H a o) s := by
  have un : ∀ b u, H b = some u → upd H a o b = some u := fun b u e => by rw [ao (bh e n0)]; exact e
  refine ⟨I.ok, I.os, I.bare, ⟨I.base.keep, I.base.slot, fun b u q n hx => ?_, I.base.there, fun b xs e => un _ _ (I.base.tups b xs e), fun b u v e => un _ _ (I.base.frzs b u v e), fun b ps e => ?_⟩, I.loc, I.cell, ?_, fun x c e => ?_, fun p hp => ?_, fun b u e => ?_, I.len⟩
  · rw [ao (fun z => by rw [z, n1] at q; cases q)]
    exact I.base.free b u q n hx
  · obtain ⟨more, z⟩ := I.base.tbls b ps e
    exact ⟨more, un _ _ z⟩
  · rw [ao (Ne.symm n2)]
    exact I.free
  · rw [ao (n3 x c e)]
    exact I.freeC x c e
  · obtain ⟨p1, p2, p3⟩ := I.pin p hp
    exact ⟨p1, by rw [ao (n4 p hp)]; exact p2, p3⟩
  · by_cases hb : b = a
    · subst hb
      rw [aP] at e
      cases e
      exact ob
    · rw [ao hb] at e
      exact (I.hok b u e).eJ (fun _ _ _ q => q) (fun c q => un _ _ q) fun c xs q => un _ _ q
end
structure ik (K : Frag) (C0 : Addr) : Prop where
  ty : typeIn K (.ref C0) = some (.type "type")
  be : subIn K (.ref C0) (.type "BaseException") = some true
  it : (clsIn K C0).isSome = true
theorem vI {K : Frag} {C C0 a : Addr} {M : Model} {A : Around} {E : Value → Shared → Prop} {s : Shared} {Q : Bool → Shared → Prop} (X : K.In s.heap) (O : ik K C0) (e : subIn K (.ref C) (.ref C0) = some true) (x : ExcAt C a s.heap) (q : Q true s) :
    wpAny M A (excMatches (.ref a) (.ref C0)) Q E s := by
  obtain ⟨hh, g, d, t, os⟩ := s
  have L0 := gV (M := M) x
  have L1 := looks_typeIn (M := M) X O.ty
  have L2 := looks_subIn (M := M) X O.be
  have L3 := looks_subIn (M := M) X e
  have L4 : Looks M hh (isSubtype (.type "type") (.type "tuple")) false := Looks.of_pure tc_notTuple
  have L5 : Looks M hh (isType (.ref C0)) true := by
    have z := O.it
    unfold clsIn at z
    split at z
    case h_2 => cases z
    case h_1 ho =>
      intro A Q E s k q
      unfold isType loadHead
      exact wpAny_bind (m := loadPart _ _) (wpAny_loadPart (k _ _ (X _ _ ho)) (wpAny_pure q))
  unfold excMatches
  unfold isInstance isExcClass
  repeat lk
  exact q
noncomputable def DH (K : Frag) (C0 : Addr) (i n : Nat) (th : TS) (D : Ends) : XK := fun cls _ H' => ∃ C, cls = .ref C ∧ subIn K (.ref C) (.ref C0) = some true ∧ ∀ a, H' a = none →
  th { nx := fun _ H2 => D.nx (blank n) H2, rt := D.rt, bk := fun _ H2 => D.bk (blank n) H2, ct := fun _ H2 => D.ct (blank n) H2 } ((blank n).set i (some (.ref a))) (upd H' a (lg C a))
noncomputable def Ja (K : Frag) (C0 : Addr) (i n : Nat) (tb : XK → TS) (th : TS) : TS := fun D σ H => tb (DH K C0 i n th D) D σ H
section
variable {X : Cx} {body suite : List Stmt} {x n : Str} {i : Nat} {np qm pos : Pos} {ni : Stmt} {C0 : Addr} {tb : XK → TS} {th : TS}
theorem DI (hN : X.N.Nodup) (hi : X.N[i]? = some n) (hl : X.env.scope.names.lookup n = some .local) (mq : X.stack = X.env :: X.outer ∧ X.env.frame = some X.env.locals) (hex : X.ex = []) (O : ik X.K C0) (hg : Gl X x) (hm : X.mg x = some (.ref C0))
    (hb : ∀ (T : Value → Shared → Prop) (pn : List (Addr × Obj)) (E : XK), Passes (aK X.prog X.w) (X.je T pn) E → dO (X.je T pn) body (tb E)) (hs : ∀ a : Addr, dO (X.suite a) (ni :: suite) th)
    (fy : (x == ("__debug__" : Str)) = false := by decide) :
    PS X (.Try body [.ExceptHandler (some (.Name x np)) (some n) (ni :: suite) qm] [] [] pos) (Ja X.K C0 i X.N.length tb th) := by
  refine ⟨fun pins s σ H D I h => ?_⟩
  refine wpAny_Try_except ?_
  have hp : Passes (aK X.prog X.w) (X.je (fun e aw => wpAny (model X.prog X.w) X.A (noteFrame e X.env) (fun _ iy => wpAny (model X.prog X.w) X.A (setFlight e none) (fun _ k7 => wpAny (model X.prog X.w) X.A (handleBy e X.env [.ExceptHandler (some (.Name x np)) (some n) (ni :: suite) qm]) (SP X pins D) X.xe k7) X.xe iy) X.xe aw) (X.pn ++ pins)) (DH X.K C0 i X.N.length th D) := by
    intro pins' nU H1 s1 e s' J1 Kq
    obtain ⟨a, C, t, B, H', rfl, os, gn, fl, c1, c2, un, hok, C', ec, jP, q⟩ := Kq
    cases ec
    have I1 := J1.jS
    have I' := I1.o7 (ch := []) os un hok gn (fun b z => absurd z (by simp))
    have fr : X.A.frames = some (X.env :: X.outer) := I.ok.frames.trans (congrArg some mq.1)
    have zE : Heap.FlyingW B (X.env :: X.outer) a (.ref C) (.ref t) s'.heap := mq.1 ▸ fl
    refine wpAny_looks_onW fr mq.2 zE fun h4 held Ho => ?_
    refine wpAny_landsW held fun h5 DJ Hq => ?_
    have I5 := I1.zD I' c1 c2 fl.1 DJ.1 (Ho.trans Hq)
    have Y5 := I5.suite a
    have Kr : ExcAt C a h5 := let ⟨oe, vs, e1, e2, e3, _⟩ := DJ.first; ⟨oe, vs, e1, e2, e3⟩
    refine wpAny_handleBy_cons (codeAny_handlers_test (ki Y5 hg hm (vI Y5.eF O jP Kr ?_) fy)) (fun z => nomatch z)
    refine codeAny_handlers_suite_as (lands_againW DJ fun h6 Hr Ks => ?_)
    have I6 := I1.zD I' c1 c2 fl.1 Hr.1 ((Ho.trans Hq).trans Ks)
    have Hs : ExcAt C a h6 := let ⟨oe, vs, e1, e2, e3, _⟩ := Hr.first; ⟨oe, vs, e1, e2, e3⟩
    obtain ⟨oe, vs, e1, e2, e3⟩ := id Hs
    have Kt : a ∉ eE X.stack := fun z => by
      obtain ⟨_, o2, q1, q2⟩ := I6.stack.mem z
      rw [e1] at q1
      cases q1
      exact q2 _ e3
    have nb : ∀ o, s1.heap.get? a ≠ some o := fun o z => by
      obtain ⟨o', z'⟩ := c1 a o z Kt
      rw [fl.2.1] at z'
      cases z'
    have nH : H' a = none := by
      cases z : H' a with
      | none => rfl
      | some u =>
        obtain ⟨o', z'⟩ := c2 a u z
        rw [fl.2.1] at z'
        cases z'
    have nL : a ≠ X.env.locals := fun z => by
      obtain ⟨m, ⟨o, es, ep, ho, hd, _⟩, _⟩ := I6.loc
      rw [← z, e1] at ho
      cases ho
      rw [e3] at hd
      cases hd
    have I7 : Inv X pins (blank X.N.length) (upd H' a (lg C a)) { s' with heap := h6 } := I6.blank.F0 nH
      (by
        cases z : X.s₀.heap.get? a with
        | none => rfl
        | some o =>
          obtain ⟨o1, q1⟩ := I1.base.there a o z (by rw [hex]; simp)
          exact (nb _ q1).elim)
      nL
      (fun y c ec z => by
        obtain ⟨v, o, ho, hd⟩ := I6.cell y c ec
        rw [z, e1] at ho
        cases ho
        rw [e3] at hd
        cases hd)
      (fun p hp z => by
        have := (I1.pin p hp).1
        rw [z] at this
        exact (nb _ this).elim)
      (AD Hs)
    refine store_ok2 I7 hN hi (.inl hl) (v := .ref a) rfl (fun s8 I8 _ => ?_) (.inr hl)
    refine wpAny_mono ((hs a).run pins s8 _ _ _ (I8.suite a) (q a nH)) (fun f s9 r => ?_) (fun _ _ z => z.elim)
    have fin : ∀ {sJ : St} {H9 : Hp}, Inv (X.suite a) pins sJ H9 s9 → (∀ sL, Inv X pins (blank X.N.length) H9 sL → SP X pins D f sL) → wpAny (model X.prog X.w) X.A (do bindName X.env n .none; unbindBehindTheSuite X.env n qm) (fun _ Jb => SP X pins D f Jb) X.xe s9 := fun {sJ H9} Y9 k => by
      have I9 := Y9.AF I.ok
      obtain ⟨m, hn, _⟩ := id I9.loc
      exact wpAny_nameGoes hl hn (by rw [I.ok.kind]; rfl) fun h' m' uM sb => k _ (I9.lost uM sb)
    cases f with
    | next => obtain ⟨sJ, H9, Y9, z⟩ := r; exact fin Y9 fun sL J => ⟨_, H9, J, z⟩
    | brk => obtain ⟨sJ, H9, Y9, z⟩ := r; exact fin Y9 fun sL J => ⟨_, H9, J, z⟩
    | cont => obtain ⟨sJ, H9, Y9, z⟩ := r; exact fin Y9 fun sL J => ⟨_, H9, J, z⟩
    | ret u => obtain ⟨v, sJ, H9, Y9, rv, z⟩ := r; exact fin Y9 fun sL J => ⟨v, _, H9, J, rv, z⟩
  have mr := hb _ (X.pn ++ pins) _ hp
  refine wpAny_mono (mr.run [] s σ H D (I.je _) h) (fun f s1 q => ?_) (fun e s1 q => q)
  have q2 : SP X pins D f s1 := by
    cases f with
    | next => obtain ⟨aJ, H', J, z⟩ := q; exact ⟨aJ, H', J.jS, z⟩
    | brk => obtain ⟨aJ, H', J, z⟩ := q; exact ⟨aJ, H', J.jS, z⟩
    | cont => obtain ⟨aJ, H', J, z⟩ := q; exact ⟨aJ, H', J.jS, z⟩
    | ret u => obtain ⟨v, aJ, H', J, r, z⟩ := q; exact ⟨v, aJ, H', J.jS, r, z⟩
  cases f with
  | next => exact wpAny_pure q2
  | _ => exact q2
end
theorem oj.ou {P : Program} {w : World} {K : PySem.W.Frag} {mg : Str → Option Value} {base : Heap} {x qual : Str} {st : Stmt} {f : Addr} {fd : FuncData} {N ps : List Str} {k : Nat} {sp : Sp} (F : oj K x qual st f fd) (S : aG N ps (ak st)) (len : ∀ vs H Q E, sp vs H Q E → vs.length = ps.length)
    (lQ : ∀ (A : Around) (outer : List Env) (s : Shared) (H : Hp) (vs : List V) (Q : VK) (E : XK), b7 k (A.deeper (envOfC qual (ak st) s.heap.objs.size f fd.code)) → sp vs H Q E →
      ∃ t, dO (e8 (aK P w) P w K mg base N qual (ak st) f fd.code A outer s H E) (bB st) t ∧ t { nx := fun _ H' => Q .aC H', rt := Q } (start N vs) H) : FnOk P w K mg base (aK P w) (k + 1) f fd ps sp := by
  obtain ⟨oc, od, kV, doc, pm, an, b8, ct, gv, rfl, lk, fx⟩ := F.ex
  exact zj lk fx S len fun A outer s H vs Q E hr kM => lQ A outer s H vs Q E hr kM
noncomputable def Ht : List Value := [.type "ValueError", .type "Exception", .type "BaseException", .type "object"]
noncomputable def xX (K : Frag) (C0 C : Addr) : Bool := excIn K C Ht "ValueError.__new__" && (clsIn K C).isSome && findIn K (.ref C) "__getattribute__" == some (some (.builtin "BaseException.__getattribute__")) && findIn K (.ref C) "__getattr__" == some none &&
  findIn K (.ref C) "__class__" == some (some (.builtin "object.__class__")) && mroIn K C (.type "object") == some true && mroIn K C (.type "BaseException") == some true && subIn K (.ref C) (.ref C0) == some true && kitOne K (.ref C) (.type "ValueError") == some true
noncomputable def tS (K : Frag) (C0 : Addr) (cs : List Addr) : Bool := cs.all (xX K C0) && (cs.all fun C => cs.all fun D => kitOne K (.ref C) (.ref D) == some (decide (C = D))) && specialIn K (.builtin "object.__class__") "__get__" == some (some (.builtin "getset_descriptor.__get__")) && takesIn K (.builtin "object.__class__") == some true &&
  typeIn K (.ref C0) == some (.type "type") && subIn K (.ref C0) (.type "BaseException") == some true && (clsIn K C0).isSome
structure qo (K : Frag) (C0 : Addr) (cs : List Addr) : Prop where
  ex : ∀ C ∈ cs, excIn K C Ht "ValueError.__new__" = true
  cl : ∀ C ∈ cs, dE K C
  sub : ∀ C ∈ cs, subIn K (.ref C) (.ref C0) = some true
  one : ∀ C ∈ cs, ∀ D ∈ cs, kitOne K (.ref C) (.ref D) = some (decide (C = D))
  val : ∀ C ∈ cs, kitOne K (.ref C) (.type "ValueError") = some true
  top : ik K C0
theorem AG {K : Frag} {C0 : Addr} {cs : List Addr} (h : tS K C0 cs = true) : qo K C0 cs := by
  unfold tS at h
  simp only [Bool.and_eq_true] at h
  obtain ⟨⟨⟨⟨⟨⟨h1, h2⟩, h3⟩, h4⟩, h5⟩, h6⟩, h7⟩ := h
  have all : ∀ C ∈ cs, xX K C0 C = true := List.all_eq_true.mp h1
  have part : ∀ C ∈ cs, _ := fun C hC => by
    have z := all C hC
    unfold xX at z
    simp only [Bool.and_eq_true] at z
    exact z
  refine ⟨fun C hC => (part C hC).1.1.1.1.1.1.1.1, fun C hC => ?_, fun C hC => beq_iff_eq.mp (part C hC).1.2, fun C hC D hD => beq_iff_eq.mp (List.all_eq_true.mp (List.all_eq_true.mp h2 C hC) D hD), fun C hC => beq_iff_eq.mp (part C hC).2, ⟨beq_iff_eq.mp h5, beq_iff_eq.mp h6, h7⟩⟩
  obtain ⟨⟨⟨⟨⟨⟨⟨⟨_, p1⟩, p2⟩, p3⟩, p4⟩, p5⟩, p6⟩, _⟩, _⟩ := part C hC
  exact ⟨p1, beq_iff_eq.mp p2, beq_iff_eq.mp p3, beq_iff_eq.mp p4, beq_iff_eq.mp h3, beq_iff_eq.mp h4, beq_iff_eq.mp p5, beq_iff_eq.mp p6⟩
theorem qo.any {K : Frag} {C0 : Addr} {cs : List Addr} (E : qo K C0 cs) {C : Addr} (hC : C ∈ cs) : ∀ {Ds : List Addr}, (∀ D ∈ Ds, D ∈ cs) → kitAny K (.ref C) (Ds.map Value.ref) = some (decide (C ∈ Ds))
  | [], _ => by simp [kitAny]
  | D :: Ds, h => by
    rw [List.map_cons]
    unfold kitAny
    rw [E.one C hC D (h D List.mem_cons_self)]
    by_cases e : C = D
    · subst e
      simp
    · have ih := E.any hC (Ds := Ds) fun D' hD => h D' (List.mem_cons_of_mem _ hD)
      simp only [e, decide_false, ih, List.mem_cons, false_or]
end L2
namespace L2
open PySem PySem.Spec PyProof.Rows AutoSeq1
theorem xY (l b : Addr) (items DK : Array Value) (n n2 : Nat) (dd sy : Option Addr) (sl oa : Array (Option Value)) (h0 : items.isEmpty = true) :
    Meets (Builtin.«tuple.__add__» ⟨[.ref l, .ref b], []⟩) (fun _ R s => s.heap.get? l = some { cls := .type "tuple", dict := dd, data := .seq items n, slots := sl } ∧ s.heap.get? b = some { cls := .type "tuple", dict := sy, data := .seq DK n2, slots := oa } ∧ R (.ok (.ret (.ref b))) s) :=
  .of_wp fun prog w A R s h => by
    obtain ⟨hp, g, d, tk, os⟩ := s
    obtain ⟨hl, hb, h⟩ := h
    have f2 := AutoSeq1.sub_tuple_tuple
    wp_walk using wpAny_loadPart' hl, wpAny_loadPart' hb
    exact ⟨_, rfl, h⟩
section
variable {X : Cx}
noncomputable def F1 (K : PySem.W.Frag) : R2 := fun x y H Q => ∃ a b xs ys, x = .ref a ∧ y = .ref b ∧ bW K H a xs ∧ bW K H b ys ∧ xs.length + ys.length ≤ sizeLine ∧ (xs = [] → Q (.ref b) H) ∧ (xs ≠ [] → ys = [] → Q (.ref a) H) ∧ (xs ≠ [] → ys ≠ [] → ∀ p, H p = none → Q (.ref p) (upd H p (.tup (xs ++ ys))))
theorem AH {K : PySem.W.Frag} (hK : X.K = K) : OpR X (binaryOp .Add) (F1 K) := by
  subst hK
  intro pins s σ H x y v u Q I rx ry h
  obtain ⟨a, b, xs, ys, rfl, rfl, ha, hb, hz, q0, q1, q2⟩ := h
  by_cases hx : xs = []
  · cases rx
    cases ry
    obtain ⟨its, r1, p1, _⟩ := I.tuple ha
    obtain ⟨iA, r2, p2, _⟩ := I.tuple hb
    obtain ⟨⟨cls, dd, data, sl⟩, ho, hc, n, hd⟩ := id p1
    obtain ⟨⟨Iw, sy, data2, oa⟩, pM, vh, n2, hd2⟩ := id p2
    dsimp only at hc hd vh hd2
    subst hc hd vh hd2
    exact concat_meets ⟨_, ho, rfl⟩ ⟨_, pM, rfl⟩ noFill_tuple_add seq_tuple_add PySem.F.slot_tuple_add PySem.F.entry_tuple_add (PySem.F.args_tuple_add_2 _ _) (xY a b its.toArray iA.toArray n n2 dd sy sl oa (by simp [r1.iP.mpr hx])) ⟨ho, pM, ⟨.ref b, H, I, rfl, q0 hx⟩⟩
  · exact Ap pins s σ H _ _ v u Q I rx ry ⟨a, b, xs, ys, rfl, rfl, ha, hb, hx, hz, q1 hx, q2 hx⟩
theorem rH {prog : Program} {w : World} {A : Around} {E : Value → Shared → Prop} {s : Shared} {t sl : Addr} {items : Array Value} {vl vu : Value} {lo hi : Option Int} {Q : Value → Shared → Prop} (ht : IsTup s.heap t items) (hs : s.heap.IsSliceOf sl vl vu .none) (pl : IsPart vl lo) (pu : IsPart vu hi)
    (hw : HT.aR items.size 0 lo = 0 ∧ HT.aR items.size items.size hi = items.size) (h : Q (.ref t) s) : wpAny (model prog w) A (getItem (.ref t) (.ref sl)) Q E s := by
  obtain ⟨os, dP, zk, ie⟩ := id hs
  have CJ : s.TypeIs (.ref sl) "slice" := ⟨os, dP, zk⟩
  have Ku : s.TypeIs (.ref t) "tuple" := ht.typeIs
  unfold getItem
  refine wpAny_holding ?_
  first | refine wpAny_bind (wpAny_pure ?_) | skip
  refine wpAny_bind (wpAny_sequenceKey ht.typeIs (by decide) ?_)
  have sg := PyProof.Rows.slot_tuple_getitem
  refine wpAny_bind (wpAny_callSpecial?_slot (name := Str.ofString "__getitem__") ht.typeIs sg (wpAny_call_entry sg ht.typeIs entry_tuple_getitem ?_ (args_tuple_getitem _ _)))
  refine wpAny_bind (m := Builtin.Tuple.tupleItemsOf (.ref t)) (tupleItemsOf_ ht (wpAny_bind (wpAny_typeOf CJ ?_)))
  rw [if_pos (by decide)]
  refine wpAny_bind (HT.gR hs pl pu ?_)
  rw [hw.1, hw.2]
  show wpAny _ _ (if (((0 : Nat) : Int) == 0 && (1 : Int) == 1 && (items.size - 0) == items.size) = true then _ else _) _ _ s
  rw [if_pos (by simp)]
  refine wpAny_bind (m := Builtin.Tuple.tupleIsExact (.ref t)) ?_
  unfold Builtin.Tuple.tupleIsExact
  refine wpAny_bind (wpAny_typeOf Ku (wpAny_pure ?_))
  rw [if_pos (by decide)]
  exact wpAny_bind (wpAny_rule (wpAny_pure ⟨_, rfl, wpAny_pure h⟩))
noncomputable def Jc (K : PySem.W.Frag) : V → Option Int → Option Int → Hp → VK → Prop := fun x lo hi H Q => ∃ a xs, x = .ref a ∧ bW K H a xs ∧
  ((HT.aR xs.length 0 lo = 0 ∧ HT.aR xs.length xs.length hi = xs.length) → Q (.ref a) H) ∧ (¬ (HT.aR xs.length 0 lo = 0 ∧ HT.aR xs.length xs.length hi = xs.length) → ∀ p, H p = none → Q (.ref p) (upd H p (.tup (gp xs lo hi))))
theorem AI {K : PySem.W.Frag} (hK : X.K = K) : vi X (Jc K) := by
  subst hK
  intro pins s σ H x v vl vu lo hi sl Q I rx hs pl pu h
  obtain ⟨a, xs, rfl, hx, q1, q2⟩ := h
  by_cases hw : HT.aR xs.length 0 lo = 0 ∧ HT.aR xs.length xs.length hi = xs.length
  · cases rx
    obtain ⟨its, r, ht, hz⟩ := I.tuple hx
    have hlen : its.toArray.size = xs.length := by rw [List.size_toArray]; exact r.length.symm
    exact ⟨"tuple", _, PyProof.Rows.slot_tuple_getitem.lookup, ht.typeIs, rH ht hs pl pu (by rw [hlen]; exact hw) ⟨.ref a, H, I, rfl, q1 hw⟩⟩
  · exact CK pins s σ H _ v vl vu lo hi sl Q I rx hs pl pu ⟨a, xs, rfl, hx, hw, q2 hw⟩
theorem tT {xs : List V} {lo hi : Option Int} (h : HT.aR xs.length 0 lo = 0 ∧ HT.aR xs.length xs.length hi = xs.length) : gp xs lo hi = xs := by
  unfold gp
  rw [h.1, h.2, List.drop_zero, Nat.sub_zero, List.take_length]
end
end L2
namespace L2
open PySem PySem.Spec PyProof.Rows
structure M1 (X : Cx) (o : Expr) (m : Str) (apos : Pos) (e : Expr) (bg : Pos) : Prop where
  base : attributeBase o m X.env (eval o X.env) = eval o X.env
  few : ((backTo bg (starEach [e] X.env)).all (fun x => !x.1) && (backToKw bg (keywordEach [] X.env)).all (fun x => x.1.isSome)
    && decide (([e] : List Expr).length + ([] : List Keyword).length + (if ([] : List Keyword).isEmpty then 0 else 1) < 30)) = true
  line : (apos.endLine == bg.line) = true
  trees : backTo bg (starEach [e] X.env) = [(false, eval e X.env)]
structure M2 (X : Cx) (o : Expr) (m : Str) (apos : Pos) (e f : Expr) (bg : Pos) : Prop where
  base : attributeBase o m X.env (eval o X.env) = eval o X.env
  few : ((backTo bg (starEach [e, f] X.env)).all (fun x => !x.1) && (backToKw bg (keywordEach [] X.env)).all (fun x => x.1.isSome)
    && decide (([e, f] : List Expr).length + ([] : List Keyword).length + (if ([] : List Keyword).isEmpty then 0 else 1) < 30)) = true
  line : (apos.endLine == bg.line) = true
  trees : backTo bg (starEach [e, f] X.env) = [(false, eval e X.env), (false, eval f X.env)]
inductive Dv where
  | int (i : Int) | bl (b : Bool) | aC | str (z : Str) | tup (xs : List Dv) | lst (xs : List Dv) | set (ns : List Int) | ptr (a : Addr) | exc (C : Addr) | bp (ns : List Int) | raw (v : V) | dk (ks : List Key) (ds : List Dv) | dt (ks : List (List Key)) (ds : List Dv) | cG (f : Addr) (o : Obj) (c : Addr) (oc : Obj) (vs : List V) (ds : List Dv)
inductive Mo where
  | lst (xs : List Dv) | cQ | dk (ks : List Key) (ds : List Dv) | dt (ks : List (List Key)) (ds : List Dv)
noncomputable abbrev Mh := Addr → Option Mo
structure eG where
  g : List Addr
  l : List (Addr × Str)
instance : Membership Addr eG := ⟨fun t a => a ∈ t.g⟩
noncomputable def zF : HO → Bool
  | .b6 _ => true
  | .lam _ => true
  | .dK _ => true
  | .dT _ => true
  | _ => false
noncomputable def vJ : HO → Bool
  | .b6 _ => false
  | _ => true
noncomputable def xZ : HO → Bool
  | .dK _ => true
  | .dT _ => true
  | _ => false
theorem Rd.map {H H' : Hp} {a : Addr} {u : HO} (e : Rd H a u) (k : ∀ x, H a = some x → H' a = some x) : Rd H' a u := e.imp (k _) fun ⟨o, h⟩ => ⟨o, k _ h⟩
theorem Rd.DL {H H' : Hp} {a : Addr} {u : HO} (e : Rd H a u) (hu : xZ u = true) (k : ∀ x, vJ x = true → H a = some x → H' a = some x) : Rd H' a u := e.imp (k _ (by cases u <;> first | rfl | cases hu)) fun ⟨o, h⟩ => ⟨o, k _ rfl h⟩
theorem Rd.there {H : Hp} {a : Addr} {u : HO} (e : Rd H a u) : ∃ x, H a = some x := e.elim (fun h => ⟨_, h⟩) fun ⟨o, h⟩ => ⟨_, h⟩
noncomputable def Tg (o o' : HO) : Prop := (∃ ps iR : Array Value, o = .b6 ps ∧ o' = .b6 iR ∧ TriplesOk iR.toList) ∨ (∃ ps iR : Array Value, o = .lam ps ∧ o' = .lam iR) ∨ (xZ o = true ∧ ∃ ob, o' = .eD ob o)
theorem Tg.trans {a b c : HO} (x : Tg a b) (y : Tg b c) : Tg a c := by
  rcases x with ⟨p, q, rfl, rfl, t⟩ | ⟨p, q, rfl, rfl⟩ | ⟨hd, ob, rfl⟩
  · rcases y with ⟨p2, q2, e, rfl, t2⟩ | ⟨p2, q2, e, _⟩ | ⟨e, _⟩
    · exact .inl ⟨p, q2, rfl, rfl, t2⟩
    · cases e
    · cases e
  · rcases y with ⟨p2, q2, e, _⟩ | ⟨p2, q2, e, rfl⟩ | ⟨e, _⟩
    · cases e
    · exact .inr (.inl ⟨p, q2, rfl, rfl⟩)
    · cases e
  · rcases y with ⟨p2, q2, e, _⟩ | ⟨p2, q2, e, _⟩ | ⟨e, _⟩ <;> cases e
theorem Tg.tab {a b : HO} (x : Tg a b) : zF a = true := by
  rcases x with ⟨p, q, rfl, rfl, _⟩ | ⟨p, q, rfl, rfl⟩ | ⟨hd, ob, rfl⟩
  · rfl
  · rfl
  · cases a <;> first | rfl | cases hd
noncomputable def Jd (H : Hp) (q : Str) (cv : Value) : Prop := ∃ (c : Addr) (oc : Obj) (u : HO) (vs : Array Value) (t : Tok), cv = Value.ref c ∧ H c = some (.eD oc u) ∧ oc.data = .fields vs ∧ vs[1]? = some (Value.str q t)
noncomputable def Lm (H : Hp) (p : Addr × Str) : Prop := ∃ ps : Array Value, H p.1 = some (.lam ps) ∧ TriplesOk ps.toList ∧ ∀ pos cv, codeAmong pos ps.toList = some cv → Jd H p.2 cv
theorem Lm.keep {H H' : Hp} {p : Addr × Str} (h : Lm H p) (k1 : ∀ ps, H p.1 = some (.lam ps) → H' p.1 = some (.lam ps)) (k2 : ∀ c oc u, H c = some (.eD oc u) → H' c = some (.eD oc u)) : Lm H' p := by
  obtain ⟨ps, e, t, c⟩ := h
  refine ⟨ps, k1 _ e, t, fun pos cv q => ?_⟩
  obtain ⟨a, oc, u, vs, tk, e1, e2, r⟩ := c pos cv q
  exact ⟨a, oc, u, vs, tk, e1, k2 _ _ _ e2, r⟩
structure Bz where
  P : Program
  w : World
  K : PySem.W.Frag
  tb : eG
  hid : List Addr
noncomputable def Fz (β : Bz) (M : Mh) (a : Addr) : Prop := M a = none ∧ a ∉ β.hid
noncomputable def Kl (K : PySem.W.Frag) (a : Addr) (ns : List Int) : Prop := ∃ (o : Obj) (its : Array Value) (n : Nat), K.lookup a = some o ∧ o.cls = .type "list" ∧ o.dict = none ∧ o.data = .seq its n ∧ its.size ≤ sizeLine ∧ Vals (ns.map V.int) its.toList
inductive Rz (β : Bz) (M : Mh) (H : Hp) : V → Dv → Prop where
  | int (i : Int) : Rz β M H (.int i) (.int i)
  | bl (b : Bool) : Rz β M H (.bl b) (.bl b)
  | aC : Rz β M H .aC .aC
  | str (z : Str) : Rz β M H (.str z) (.str z)
  | tup {a : Addr} {vs : List V} {ds : List Dv} (m : Fz β M a) (e : H a = some (.tup vs)) (hl : vs.length = ds.length) (h : ∀ (i : Nat) (v : V) (d : Dv), vs[i]? = some v → ds[i]? = some d → Rz β M H v d) : Rz β M H (.ref a) (.tup ds)
  | lst {a : Addr} {vs : List V} {ds : List Dv} (m : Fz β M a) (e : H a = some (.lst vs)) (hl : vs.length = ds.length) (h : ∀ (i : Nat) (v : V) (d : Dv), vs[i]? = some v → ds[i]? = some d → Rz β M H v d) : Rz β M H (.ref a) (.lst ds)
  | set {a : Addr} {ns : List Int} (m : Fz β M a) (e : H a = some (lb β.P β.w a ns)) : Rz β M H (.ref a) (.set ns)
  | ptr {a : Addr} (m : (M a).isSome = true) : Rz β M H (.ref a) (.ptr a)
  | exc {a C : Addr} (m : Fz β M a) (e : H a = some (lg C a)) : Rz β M H (.ref a) (.exc C)
  | bp {a : Addr} {o : Obj} {ns : List Int} (m : Fz β M a) (e : H a = some (.eD o (.lst (ns.map V.int)))) : Rz β M H (.ref a) (.bp ns)
  | cz {a : Addr} {ns : List Int} (m : Fz β M a) (e : H a = some (.lst (ns.map V.int))) : Rz β M H (.ref a) (.bp ns)
  | cA {a : Addr} {ns : List Int} (e : Kl β.K a ns) : Rz β M H (.ref a) (.bp ns)
  | raw (v : V) : Rz β M H v (.raw v)
  | dk {a : Addr} {ks : List Key} {vs : List V} {ds : List Dv} (m : Fz β M a) (e : Rd H a (.dK (ks.zip vs))) (hk : ks.length = vs.length) (hl : vs.length = ds.length) (h : ∀ (i : Nat) (v : V) (d : Dv), vs[i]? = some v → ds[i]? = some d → Rz β M H v d) : Rz β M H (.ref a) (.dk ks ds)
  | dt {a : Addr} {ks : List (List Key)} {vs : List V} {ds : List Dv} (m : Fz β M a) (e : Rd H a (.dT (ks.zip vs))) (hk : ks.length = vs.length) (hl : vs.length = ds.length) (h : ∀ (i : Nat) (v : V) (d : Dv), vs[i]? = some v → ds[i]? = some d → Rz β M H v d) : Rz β M H (.ref a) (.dt ks ds)
  | cG {f c : Addr} {o oc : Obj} {u uc : HO} {vs : List V} {ds : List Dv} (m : Fz β M f) (e : H f = some (.eD o u)) (m2 : Fz β M c) (e2 : H c = some (.eD oc uc)) (hl : vs.length = ds.length) (h : ∀ (i : Nat) (v : V) (d : Dv), vs[i]? = some v → ds[i]? = some d → Rz β M H v d) : Rz β M H (.ref f) (.cG f o c oc vs ds)
structure aT (β : Bz) (M : Mh) (H : Hp) (vs : List V) (ds : List Dv) : Prop where
  len : vs.length = ds.length
  at' : ∀ (i : Nat) (v : V) (d : Dv), vs[i]? = some v → ds[i]? = some d → Rz β M H v d
noncomputable def gz (β : Bz) (M : Mh) (H : Hp) (a : Addr) : Mo → Prop
  | .lst ds => ∃ vs, H a = some (.lst vs) ∧ aT β M H vs ds
  | .cQ => FX H a
  | .dk ks ds => ∃ vs, H a = some (.dK (ks.zip vs)) ∧ ks.length = vs.length ∧ aT β M H vs ds
  | .dt ks ds => ∃ vs, H a = some (.dT (ks.zip vs)) ∧ ks.length = vs.length ∧ aT β M H vs ds
noncomputable def lj : HO → Bool
  | .lst _ => true
  | .set _ _ => true
  | .dK _ => true
  | .dT _ => true
  | .ext _ => true
  | .b6 _ => true
  | _ => false
noncomputable def tU (H : Hp) (a : Addr) : Prop := ∃ o, H a = some o ∧ lj o = true
theorem tU.upd {H : Hp} {a p : Addr} {o : HO} (h : tU H a) (d : H p = none ∨ lj o = true) : tU (upd H p o) a := by
  obtain ⟨u, e, n⟩ := h
  by_cases z : a = p
  · subst z
    rcases d with d | d
    · rw [e] at d; cases d
    · exact ⟨o, aP, d⟩
  · exact ⟨u, by rw [ao z]; exact e, n⟩
structure Mz (β : Bz) (M : Mh) (H : Hp) : Prop where
  obj : ∀ a o, M a = some o → gz β M H a o
  tabs : zt β.tb.g H
  hids : ∀ a ∈ β.hid, tU H a
  apart : ∀ a o, M a = some o → a ∉ β.hid
  lams : ∀ p ∈ β.tb.l, Lm H p
structure Ey (M : Mh) (H : Hp) (M' : Mh) (H' : Hp) : Prop where
  keep : ∀ b o, M b = none → H b = some o → H' b = some o ∨ ∃ o', Tg o o' ∧ H' b = some o'
  dom : ∀ a, (M a).isSome = true → (M' a).isSome = true
  new : ∀ a o, M a = none → H a = some o → M' a = none
structure Ex (β : Bz) (M : Mh) (H : Hp) (M' : Mh) (H' : Hp) : Prop extends Ey M H M' H' where
  mz : Mz β M' H'
section
variable {β : Bz} {M M1 M2 : Mh} {H H1 H2 : Hp}
theorem Ey.refl : Ey M H M H := ⟨fun _ _ _ h => .inl h, fun _ h => h, fun _ _ h _ => h⟩
theorem Ex.refl (m : Mz β M H) : Ex β M H M H := ⟨.refl, m⟩
theorem Ey.trans (x : Ey M H M1 H1) (y : Ey M1 H1 M2 H2) : Ey M H M2 H2 := by
  refine ⟨fun b o hm h => ?_, fun a h => y.dom a (x.dom a h), fun a o hm h => ?_⟩
  · have iT := x.new b o hm h
    rcases x.keep b o hm h with q | ⟨o1, t, q⟩
    · exact y.keep b o iT q
    · rcases y.keep b _ iT q with q2 | ⟨o2, t2, q2⟩
      · exact .inr ⟨o1, t, q2⟩
      · exact .inr ⟨o2, t.trans t2, q2⟩
  · have iT := x.new a o hm h
    rcases x.keep a o hm h with q | ⟨o1, t, q⟩
    · exact y.new a _ iT q
    · exact y.new a _ iT q
theorem Ex.trans (x : Ex β M H M1 H1) (y : Ex β M1 H1 M2 H2) : Ex β M H M2 H2 := ⟨x.toEy.trans y.toEy, y.mz⟩
theorem Ey.get (x : Ey M H M1 H1) {b : Addr} {o : HO} (m : M b = none) (h : H b = some o) (n : zF o = false) : H1 b = some o := by
  rcases x.keep b o m h with q | ⟨o', e, _⟩
  · exact q
  · rw [e.tab] at n; cases n
theorem Ey.rd (x : Ey M H M1 H1) {b : Addr} {u : HO} (m : M b = none) (h : Rd H b u) (hu : xZ u = true) : Rd H1 b u := by
  rcases h with h | ⟨o, h⟩
  · rcases x.keep b u m h with q | ⟨o', t, q⟩
    · exact .inl q
    · rcases t with ⟨_, _, rfl, _⟩ | ⟨_, _, rfl, _⟩ | ⟨_, ob, rfl⟩
      · cases hu
      · cases hu
      · exact .inr ⟨ob, q⟩
  · exact .inr ⟨o, x.get m h rfl⟩
theorem Ey.gone (x : Ey M H M1 H1) {b : Addr} (h : H1 b = none) : M b = none → H b = none := fun m => by
  cases e : H b with
  | none => rfl
  | some o =>
    rcases x.keep b o m e with q | ⟨_, _, q⟩ <;> (rw [h] at q; cases q)
theorem Rz.ey (x : Ey M H M1 H1) {v : V} {d : Dv} (h : Rz β M H v d) : Rz β M1 H1 v d := by
  induction h with
  | int i => exact .int i
  | bl b => exact .bl b
  | aC => exact .aC
  | str z => exact .str z
  | tup m e hl h ih => exact .tup ⟨x.new _ _ m.1 e, m.2⟩ (x.get m.1 e rfl) hl ih
  | lst m e hl h ih => exact .lst ⟨x.new _ _ m.1 e, m.2⟩ (x.get m.1 e rfl) hl ih
  | dk m e hk hl h ih => exact .dk ⟨x.new _ _ m.1 e.there.choose_spec, m.2⟩ (x.rd m.1 e rfl) hk hl ih
  | dt m e hk hl h ih => exact .dt ⟨x.new _ _ m.1 e.there.choose_spec, m.2⟩ (x.rd m.1 e rfl) hk hl ih
  | cG m e m2 e2 hl h ih => exact .cG ⟨x.new _ _ m.1 e, m.2⟩ (x.get m.1 e rfl) ⟨x.new _ _ m2.1 e2, m2.2⟩ (x.get m2.1 e2 rfl) hl ih
  | set m e => exact .set ⟨x.new _ _ m.1 e, m.2⟩ (x.get m.1 e rfl)
  | ptr m => exact .ptr (x.dom _ m)
  | exc m e => exact .exc ⟨x.new _ _ m.1 e, m.2⟩ (x.get m.1 e rfl)
  | bp m e => exact .bp ⟨x.new _ _ m.1 e, m.2⟩ (x.get m.1 e rfl)
  | cz m e => exact .cz ⟨x.new _ _ m.1 e, m.2⟩ (x.get m.1 e rfl)
  | cA e => exact .cA e
  | raw v => exact .raw v
theorem Rz.ex (x : Ex β M H M1 H1) {v : V} {d : Dv} (h : Rz β M H v d) : Rz β M1 H1 v d := h.ey x.toEy
theorem aT.ex (x : Ex β M H M1 H1) {vs : List V} {ds : List Dv} (h : aT β M H vs ds) : aT β M1 H1 vs ds := ⟨h.len, fun i v d a b => (h.at' i v d a b).ex x⟩
theorem aT.nil : aT β M H [] [] := ⟨rfl, fun i v d h => by simp at h⟩
theorem aT.cons {v : V} {d : Dv} {vs : List V} {ds : List Dv} (h : Rz β M H v d) (t : aT β M H vs ds) : aT β M H (v :: vs) (d :: ds) := ⟨by simp [t.len], fun i x y a b => by
  cases i with
  | zero => simp at a b; subst a b; exact h
  | succ i => rw [List.getElem?_cons_succ] at a b; exact t.at' i x y a b⟩
theorem aT.head {v : V} {d : Dv} {vs : List V} {ds : List Dv} (h : aT β M H (v :: vs) (d :: ds)) : Rz β M H v d := h.at' 0 v d rfl rfl
theorem aT.tail {v : V} {d : Dv} {vs : List V} {ds : List Dv} (h : aT β M H (v :: vs) (d :: ds)) : aT β M H vs ds := ⟨by simpa using h.len, fun i x y a b => h.at' (i + 1) x y (by rw [List.getElem?_cons_succ]; exact a) (by rw [List.getElem?_cons_succ]; exact b)⟩
theorem aT.append {vs vK : List V} {ds fL : List Dv} (h : aT β M H vs ds) (t : aT β M H vK fL) : aT β M H (vs ++ vK) (ds ++ fL) := ⟨by simp [h.len, t.len], fun i x y a b => by
  rw [List.getElem?_append] at a b
  rw [h.len] at a
  split at b
  · rename_i z
    rw [if_pos z] at a
    exact h.at' i x y a b
  · rename_i z
    rw [if_neg z] at a
    exact t.at' _ x y a b⟩
theorem aT.snoc {v : V} {d : Dv} {vs : List V} {ds : List Dv} (t : aT β M H vs ds) (h : Rz β M H v d) : aT β M H (vs ++ [v]) (ds ++ [d]) := t.append (.cons h .nil)
theorem aT.get {vs : List V} {ds : List Dv} (h : aT β M H vs ds) {i : Nat} {d : Dv} (e : ds[i]? = some d) : ∃ v, vs[i]? = some v ∧ Rz β M H v d := by
  have hi := (List.getElem?_eq_some_iff.mp e).1
  have dR : i < vs.length := by rw [h.len]; exact hi
  exact ⟨vs[i], List.getElem?_eq_getElem dR, h.at' i _ _ (List.getElem?_eq_getElem dR) e⟩
theorem aT.get' {vs : List V} {ds : List Dv} (h : aT β M H vs ds) {i : Nat} {v : V} (e : vs[i]? = some v) : ∃ d, ds[i]? = some d ∧ Rz β M H v d := by
  have hi := (List.getElem?_eq_some_iff.mp e).1
  have dR : i < ds.length := by rw [← h.len]; exact hi
  exact ⟨ds[i], List.getElem?_eq_getElem dR, h.at' i _ _ e (List.getElem?_eq_getElem dR)⟩
theorem aT.take {vs : List V} {ds : List Dv} (h : aT β M H vs ds) (n : Nat) : aT β M H (vs.take n) (ds.take n) := ⟨by simp [h.len], fun i x y a b => by
  rw [List.getElem?_take] at a b
  split at a
  · rename_i z; rw [if_pos z] at b; exact h.at' i x y a b
  · cases a⟩
theorem aT.drop {vs : List V} {ds : List Dv} (h : aT β M H vs ds) (n : Nat) : aT β M H (vs.drop n) (ds.drop n) := ⟨by simp [h.len], fun i x y a b => by
  rw [List.getElem?_drop] at a b
  exact h.at' _ x y a b⟩
theorem aT.set {vs : List V} {ds : List Dv} (h : aT β M H vs ds) (n : Nat) {v : V} {d : Dv} (r : Rz β M H v d) : aT β M H (vs.set n v) (ds.set n d) := ⟨by simp [h.len], fun i x y a b => by
  rw [List.getElem?_set] at a b
  rw [h.len] at a
  split at a
  · rename_i z
    rw [if_pos z] at b
    split at a
    · rename_i z2; rw [if_pos z2] at b; cases a; cases b; exact r
    · cases a
  · rename_i z; rw [if_neg z] at b; exact h.at' i x y a b⟩
theorem fD {a : Addr} {vs : List V} {ds : List Dv} (m : Fz β M a) (e : H a = some (.tup vs)) (h : aT β M H vs ds) : Rz β M H (.ref a) (.tup ds) := .tup m e h.len h.at'
theorem mw {a : Addr} {vs : List V} {ds : List Dv} (m : Fz β M a) (e : H a = some (.lst vs)) (h : aT β M H vs ds) : Rz β M H (.ref a) (.lst ds) := .lst m e h.len h.at'
theorem cR {v : V} {ds : List Dv} (h : Rz β M H v (.tup ds)) : ∃ a vs, v = .ref a ∧ Fz β M a ∧ H a = some (.tup vs) ∧ aT β M H vs ds := by
  cases h with
  | tup m e hl h => exact ⟨_, _, rfl, m, e, hl, h⟩
theorem fo {v : V} {ds : List Dv} (h : Rz β M H v (.lst ds)) : ∃ a vs, v = .ref a ∧ Fz β M a ∧ H a = some (.lst vs) ∧ aT β M H vs ds := by
  cases h with
  | lst m e hl h => exact ⟨_, _, rfl, m, e, hl, h⟩
theorem aO {v : V} {i : Int} (h : Rz β M H v (.int i)) : v = .int i := by cases h; rfl
theorem cW {v : V} {b : Bool} (h : Rz β M H v (.bl b)) : v = .bl b := by cases h; rfl
theorem dU {v : V} {z : Str} (h : Rz β M H v (.str z)) : v = .str z := by cases h; rfl
theorem gd {v : V} (h : Rz β M H v .aC) : v = .aC := by cases h; rfl
theorem gf {v u : V} (h : Rz β M H v (.raw u)) : v = u := by cases h; rfl
theorem cS {v : V} {a : Addr} (h : Rz β M H v (.ptr a)) : v = .ref a ∧ (M a).isSome = true := by cases h with | ptr m => exact ⟨rfl, m⟩
theorem vL {v : V} {ns : List Int} (h : Rz β M H v (.set ns)) : ∃ a, v = .ref a ∧ Fz β M a ∧ H a = some (lb β.P β.w a ns) := by cases h with | set m e => exact ⟨_, rfl, m, e⟩
theorem jT {v : V} {C : Addr} (h : Rz β M H v (.exc C)) : ∃ a, v = .ref a ∧ Fz β M a ∧ H a = some (lg C a) := by cases h with | exc m e => exact ⟨_, rfl, m, e⟩
theorem oA {v : V} {ns : List Int} (h : Rz β M H v (.bp ns)) : ∃ a, v = .ref a ∧ bQ β.K H a (ns.map V.int) := by
  cases h with
  | bp m e => exact ⟨_, rfl, .inl (.inr ⟨_, e⟩)⟩
  | cz m e => exact ⟨_, rfl, .inl (.inl e)⟩
  | cA e => exact ⟨_, rfl, .inr e⟩
noncomputable def tV : HO → Bool
  | .lst _ => true
  | .dK _ => true
  | .dT _ => true
  | _ => false
theorem Mz.own (m : Mz β M H) {a : Addr} {o : Mo} (e : M a = some o) : ∃ u, H a = some u ∧ tV u = true := by
  have q := m.obj a o e
  cases o with
  | lst ds => obtain ⟨vs, q, _⟩ := q; exact ⟨_, q, rfl⟩
  | dk ks ds => obtain ⟨vs, q, _⟩ := q; exact ⟨_, q, rfl⟩
  | dt ks ds => obtain ⟨vs, q, _⟩ := q; exact ⟨_, q, rfl⟩
  | cQ => obtain ⟨_, _, q, _⟩ := q; exact ⟨_, q, rfl⟩
theorem Mz.mx (m : Mz β M H) {a : Addr} {u : HO} (h : H a = some u) (n : tV u = false) : M a = none := by
  cases e : M a with
  | none => rfl
  | some o => obtain ⟨u', q, w⟩ := m.own e; rw [h] at q; cases q; rw [n] at w; cases w
theorem Mz.F2 (m : Mz β M H) {p : Addr} (hp : p ∈ β.tb) : M p = none := let ⟨_, h, _⟩ := m.tabs p hp; m.mx h rfl
theorem Mz.DM (m : Mz β M H) {p : Addr × Str} (hp : p ∈ β.tb.l) : M p.1 = none := let ⟨_, h, _⟩ := m.lams p hp; m.mx h rfl
theorem Mz.free (m : Mz β M H) {a : Addr} (h : H a = none) : M a = none := by
  cases e : M a with
  | none => rfl
  | some o => obtain ⟨xs, q, _⟩ := m.own e; rw [h] at q; cases q
theorem Mz.fz (m : Mz β M H) {a : Addr} (h : H a = none) : Fz β M a := ⟨m.free h, fun z => by
  obtain ⟨o, e, _⟩ := m.hids a z
  rw [h] at e
  cases e⟩
theorem ya {p a : Addr} {o : HO} (h : ∃ u, H a = Option.some u) : ∃ u, upd H p o a = Option.some u := by
  unfold upd
  split
  · exact ⟨_, rfl⟩
  · exact h
theorem Ex.lay (m : Mz β M H) {p : Addr} (h : H p = none) (o : HO) : Ex β M H M (upd H p o) := by
  have pre : ∀ b u, H b = some u → upd H p o b = some u := fun b u q => by rw [ao (bh q h)]; exact q
  have rz : ∀ {v : V} {d : Dv}, Rz β M H v d → Rz β M (upd H p o) v d := fun r => by
    induction r with
    | int i => exact .int i
    | bl b => exact .bl b
    | aC => exact .aC
    | str z => exact .str z
    | tup m e hl h ih => exact .tup m (pre _ _ e) hl ih
    | lst m e hl h ih => exact .lst m (pre _ _ e) hl ih
    | dk m e hk hl h ih => exact .dk m (e.map fun _ h => pre _ _ h) hk hl ih
    | dt m e hk hl h ih => exact .dt m (e.map fun _ h => pre _ _ h) hk hl ih
    | cG m e m2 e2 hl h ih => exact .cG m (pre _ _ e) m2 (pre _ _ e2) hl ih
    | set m e => exact .set m (pre _ _ e)
    | ptr m => exact .ptr m
    | exc m e => exact .exc m (pre _ _ e)
    | bp m e => exact .bp m (pre _ _ e)
    | cz m e => exact .cz m (pre _ _ e)
    | cA e => exact .cA e
    | raw v => exact .raw v
  refine ⟨⟨fun b u _ q => .inl (pre b u q), fun _ h => h, fun _ _ h _ => h⟩, fun a u e => ?_, fun q hq => ?_, fun a ha => (m.hids a ha).upd (.inl h), m.apart, fun q hq => (m.lams q hq).keep (fun _ e => pre _ _ e) fun _ _ _ e => pre _ _ e⟩
  · have z := m.obj a u e
    cases u with
    | lst ds => obtain ⟨vs, z, l, r⟩ := z; exact ⟨vs, pre _ _ z, l, fun i v d a b => rz (r i v d a b)⟩
    | dk ks ds => obtain ⟨vs, z, hk, l, r⟩ := z; exact ⟨vs, pre _ _ z, hk, l, fun i v d a b => rz (r i v d a b)⟩
    | dt ks ds => obtain ⟨vs, z, hk, l, r⟩ := z; exact ⟨vs, pre _ _ z, hk, l, fun i v d a b => rz (r i v d a b)⟩
    | cQ => obtain ⟨c, n, z, r⟩ := z; exact ⟨c, n, pre _ _ z, r⟩
  · obtain ⟨ps, e, t⟩ := m.tabs q hq
    exact ⟨ps, pre _ _ e, t⟩
theorem Ex.grow (m : Mz β M H) {p : Addr} (hp : p ∈ β.tb) {ps : Array Value} (t : TriplesOk ps.toList) : Ex β M H M (upd H p (.b6 ps)) := by
  obtain ⟨Kv, Hu, t0⟩ := m.tabs p hp
  have pre : ∀ b u, H b = some u → vJ u = true → upd H p (.b6 ps) b = some u := fun b u q n => by
    have : b ≠ p := fun z => by subst z; rw [Hu] at q; cases q; cases n
    rw [ao this]; exact q
  have rz : ∀ {v : V} {d : Dv}, Rz β M H v d → Rz β M (upd H p (.b6 ps)) v d := fun r => by
    induction r with
    | int i => exact .int i
    | bl b => exact .bl b
    | aC => exact .aC
    | str z => exact .str z
    | tup m e hl h ih => exact .tup m (pre _ _ e rfl) hl ih
    | lst m e hl h ih => exact .lst m (pre _ _ e rfl) hl ih
    | dk m e hk hl h ih => exact .dk m (e.DL rfl fun x hx h => pre _ _ h hx) hk hl ih
    | dt m e hk hl h ih => exact .dt m (e.DL rfl fun x hx h => pre _ _ h hx) hk hl ih
    | cG m e m2 e2 hl h ih => exact .cG m (pre _ _ e rfl) m2 (pre _ _ e2 rfl) hl ih
    | set m e => exact .set m (pre _ _ e rfl)
    | ptr m => exact .ptr m
    | exc m e => exact .exc m (pre _ _ e rfl)
    | bp m e => exact .bp m (pre _ _ e rfl)
    | cz m e => exact .cz m (pre _ _ e rfl)
    | cA e => exact .cA e
    | raw v => exact .raw v
  refine ⟨⟨fun b u _ q => ?_, fun _ h => h, fun _ _ h _ => h⟩, fun a u e => ?_, fun q hq => ?_, fun a ha => (m.hids a ha).upd (.inr rfl), m.apart, fun q hq => (m.lams q hq).keep (fun _ e => pre _ _ e rfl) fun _ _ _ e => pre _ _ e rfl⟩
  · by_cases e : b = p
    · subst e
      rw [Hu] at q
      cases q
      exact .inr ⟨_, .inl ⟨Kv, ps, rfl, rfl, t⟩, aP⟩
    · exact .inl (by rw [ao e]; exact q)
  · have z := m.obj a u e
    cases u with
    | lst ds => obtain ⟨vs, z, l, r⟩ := z; exact ⟨vs, pre _ _ z rfl, l, fun i v d a b => rz (r i v d a b)⟩
    | dk ks ds => obtain ⟨vs, z, hk, l, r⟩ := z; exact ⟨vs, pre _ _ z rfl, hk, l, fun i v d a b => rz (r i v d a b)⟩
    | dt ks ds => obtain ⟨vs, z, hk, l, r⟩ := z; exact ⟨vs, pre _ _ z rfl, hk, l, fun i v d a b => rz (r i v d a b)⟩
    | cQ => obtain ⟨c, n, z, r⟩ := z; exact ⟨c, n, pre _ _ z rfl, r⟩
  · by_cases e : q = p
    · subst e; exact ⟨ps, aP, t⟩
    · obtain ⟨p2, e2, t2⟩ := m.tabs q hq
      exact ⟨p2, by rw [ao e]; exact e2, t2⟩
noncomputable def az (M : Mh) (a : Addr) (o : Mo) : Mh := fun b => if b = a then Option.some o else M b
theorem updM_same {a : Addr} {o : Mo} : az M a o a = Option.some o := by unfold az; rw [if_pos rfl]
theorem aq {a b : Addr} {o : Mo} (h : b ≠ a) : az M a o b = M b := by unfold az; rw [if_neg h]
theorem updM_updM {a : Addr} {o u : Mo} : az (az M a o) a u = az M a u := by funext b; unfold az; split <;> rfl
theorem my {p : Addr} {o : Mo} {u : HO} (hp : (M p).isSome = true ∨ H p = none) {v : V} {d : Dv} (h : Rz β M H v d) : Rz β (az M p o) (upd H p u) v d := by
  have ne : ∀ a x, M a = none → H a = Option.some x → a ≠ p := fun a x m e z => by
    subst z
    rcases hp with q | q
    · rw [m] at q; cases q
    · rw [q] at e; cases e
  induction h with
  | int i => exact .int i
  | bl b => exact .bl b
  | aC => exact .aC
  | str z => exact .str z
  | tup m e hl h ih => have n := ne _ _ m.1 e; exact .tup ⟨by rw [aq n]; exact m.1, m.2⟩ (by rw [ao n]; exact e) hl ih
  | lst m e hl h ih => have n := ne _ _ m.1 e; exact .lst ⟨by rw [aq n]; exact m.1, m.2⟩ (by rw [ao n]; exact e) hl ih
  | dk m e hk hl h ih => have n := ne _ _ m.1 e.there.choose_spec; exact .dk ⟨by rw [aq n]; exact m.1, m.2⟩ (e.map fun _ h => by rw [ao n]; exact h) hk hl ih
  | dt m e hk hl h ih => have n := ne _ _ m.1 e.there.choose_spec; exact .dt ⟨by rw [aq n]; exact m.1, m.2⟩ (e.map fun _ h => by rw [ao n]; exact h) hk hl ih
  | cG m e m2 e2 hl h ih => have n := ne _ _ m.1 e; have n2 := ne _ _ m2.1 e2; exact .cG ⟨by rw [aq n]; exact m.1, m.2⟩ (by rw [ao n]; exact e) ⟨by rw [aq n2]; exact m2.1, m2.2⟩ (by rw [ao n2]; exact e2) hl ih
  | set m e => have n := ne _ _ m.1 e; exact .set ⟨by rw [aq n]; exact m.1, m.2⟩ (by rw [ao n]; exact e)
  | ptr m =>
    refine .ptr ?_
    unfold az
    split
    · rfl
    · exact m
  | exc m e => have n := ne _ _ m.1 e; exact .exc ⟨by rw [aq n]; exact m.1, m.2⟩ (by rw [ao n]; exact e)
  | bp m e => have n := ne _ _ m.1 e; exact .bp ⟨by rw [aq n]; exact m.1, m.2⟩ (by rw [ao n]; exact e)
  | cz m e => have n := ne _ _ m.1 e; exact .cz ⟨by rw [aq n]; exact m.1, m.2⟩ (by rw [ao n]; exact e)
  | cA e => exact .cA e
  | raw v => exact .raw v
theorem gz.upd {p : Addr} {o' : Mo} {u : HO} (hp : (M p).isSome = true ∨ H p = none) {a : Addr} {o : Mo} (ha : a ≠ p) (z : gz β M H a o) : gz β (az M p o') (L2.upd H p u) a o := by
  cases o with
  | lst ds => obtain ⟨vs, z, l, r⟩ := z; exact ⟨vs, by rw [ao ha]; exact z, l, fun i v d a b => my hp (r i v d a b)⟩
  | dk ks ds => obtain ⟨vs, z, hk, l, r⟩ := z; exact ⟨vs, by rw [ao ha]; exact z, hk, l, fun i v d a b => my hp (r i v d a b)⟩
  | dt ks ds => obtain ⟨vs, z, hk, l, r⟩ := z; exact ⟨vs, by rw [ao ha]; exact z, hk, l, fun i v d a b => my hp (r i v d a b)⟩
  | cQ => obtain ⟨c, n, z, r⟩ := z; exact ⟨c, n, by rw [ao ha]; exact z, r⟩
theorem Ex.tV (m : Mz β M H) {p : Addr} {u : HO} {o' : Mo} (hp : (M p).isSome = true ∨ H p = none) (hu : lj u = true) (r : gz β (az M p o') (upd H p u) p o') : Ex β M H (az M p o') (upd H p u) := by
  have ne : ∀ a x, M a = none → H a = Option.some x → a ≠ p := fun a x m e z => by
    subst z
    rcases hp with q | q
    · rw [m] at q; cases q
    · rw [q] at e; cases e
  refine ⟨⟨fun b u hm q => .inl ?_, fun a h => ?_, fun a o hm h => ?_⟩, fun a o e => ?_, fun q hq => ?_, fun a ha => (m.hids a ha).upd (.inr hu), fun a o e z => ?_, fun q hq => ?_⟩
  · rw [ao (ne b _ hm q)]; exact q
  · unfold az
    split
    · rfl
    · exact h
  · rw [aq (ne a _ hm h)]; exact hm
  · by_cases ha : a = p
    · subst ha
      rw [updM_same] at e
      cases e
      exact r
    · rw [aq ha] at e
      exact (m.obj a o e).upd hp ha
  · obtain ⟨ps, e, t⟩ := m.tabs q hq
    exact ⟨ps, by rw [ao (ne q _ (m.F2 hq) e)]; exact e, t⟩
  · by_cases ha : a = p
    · subst ha
      rcases hp with h | h
      · cases q : M a with
        | none => rw [q] at h; cases h
        | some u => exact m.apart a u q z
      · obtain ⟨u, hu, _⟩ := m.hids a z
        rw [h] at hu
        cases hu
    · rw [aq ha] at e
      exact m.apart a o e z
  · exact (m.lams q hq).keep (fun _ e => by rw [ao (ne q.1 _ (m.DM hq) e)]; exact e) fun c _ _ e => by rw [ao (ne c _ (m.mx e rfl) e)]; exact e
theorem Ex.own (m : Mz β M H) {p : Addr} {vs : List V} {ds : List Dv} (hp : (M p).isSome = true ∨ H p = none) (r : aT β M H vs ds) : Ex β M H (az M p (.lst ds)) (upd H p (.lst vs)) :=
  Ex.tV m hp rfl ⟨vs, aP, r.len, fun i v d a b => my hp (r.at' i v d a b)⟩
noncomputable abbrev Bz.add (β : Bz) (D : Addr) : Bz := { β with hid := D :: β.hid }
theorem Rz.enter {D : Addr} {o : HO} (hD : H D = none) {v : V} {d : Dv} (h : Rz β M H v d) : Rz (β.add D) M (upd H D o) v d := by
  have ne : ∀ a x, Fz β M a → H a = some x → Fz (β.add D) M a := fun a x m e => ⟨m.1, by
    intro z
    rcases List.mem_cons.mp z with z | z
    · subst z; rw [hD] at e; cases e
    · exact m.2 z⟩
  have pre : ∀ a x, H a = some x → upd H D o a = some x := fun a x e => by rw [ao (bh e hD)]; exact e
  induction h with
  | int i => exact .int i
  | bl b => exact .bl b
  | aC => exact .aC
  | str z => exact .str z
  | tup m e hl h ih => exact .tup (ne _ _ m e) (pre _ _ e) hl ih
  | lst m e hl h ih => exact .lst (ne _ _ m e) (pre _ _ e) hl ih
  | dk m e hk hl h ih => exact .dk (ne _ _ m e.there.choose_spec) (e.map fun _ h => pre _ _ h) hk hl ih
  | dt m e hk hl h ih => exact .dt (ne _ _ m e.there.choose_spec) (e.map fun _ h => pre _ _ h) hk hl ih
  | cG m e m2 e2 hl h ih => exact .cG (ne _ _ m e) (pre _ _ e) (ne _ _ m2 e2) (pre _ _ e2) hl ih
  | set m e => exact .set (ne _ _ m e) (pre _ _ e)
  | ptr m => exact .ptr m
  | exc m e => exact .exc (ne _ _ m e) (pre _ _ e)
  | bp m e => exact .bp (ne _ _ m e) (pre _ _ e)
  | cz m e => exact .cz (ne _ _ m e) (pre _ _ e)
  | cA e => exact .cA e
  | raw v => exact .raw v
theorem Rz.sub {cg : Bz} (hP : cg.P = β.P) (hw : cg.w = β.w) (hK : cg.K = β.K) (hs : ∀ a, a ∈ cg.hid → a ∈ β.hid) {v : V} {d : Dv} (h : Rz β M H v d) : Rz cg M H v d := by
  have ne : ∀ a, Fz β M a → Fz cg M a := fun a m => ⟨m.1, fun z => m.2 (hs a z)⟩
  induction h with
  | int i => exact .int i
  | bl b => exact .bl b
  | aC => exact .aC
  | str z => exact .str z
  | tup m e hl h ih => exact .tup (ne _ m) e hl ih
  | lst m e hl h ih => exact .lst (ne _ m) e hl ih
  | dk m e hk hl h ih => exact .dk (ne _ m) e hk hl ih
  | dt m e hk hl h ih => exact .dt (ne _ m) e hk hl ih
  | cG m e m2 e2 hl h ih => exact .cG (ne _ m) e (ne _ m2) e2 hl ih
  | set m e => exact .set (ne _ m) (by rw [hP, hw]; exact e)
  | ptr m => exact .ptr m
  | exc m e => exact .exc (ne _ m) e
  | bp m e => exact .bp (ne _ m) e
  | cz m e => exact .cz (ne _ m) e
  | cA e => exact .cA (by rw [hK]; exact e)
  | raw v => exact .raw v
theorem Mz.sub {cg : Bz} (hP : cg.P = β.P) (hw : cg.w = β.w) (hK : cg.K = β.K) (ht : cg.tb = β.tb) (hs : ∀ a, a ∈ cg.hid → a ∈ β.hid) (m : Mz β M H) : Mz cg M H := ⟨fun a o e => by
  have z := m.obj a o e
  cases o with
  | lst ds => obtain ⟨vs, z, l, r⟩ := z; exact ⟨vs, z, l, fun i v d a b => (r i v d a b).sub hP hw hK hs⟩
  | dk ks ds => obtain ⟨vs, z, hk, l, r⟩ := z; exact ⟨vs, z, hk, l, fun i v d a b => (r i v d a b).sub hP hw hK hs⟩
  | dt ks ds => obtain ⟨vs, z, hk, l, r⟩ := z; exact ⟨vs, z, hk, l, fun i v d a b => (r i v d a b).sub hP hw hK hs⟩
  | cQ => exact z, by rw [ht]; exact m.tabs, fun a ha => m.hids a (hs a ha), fun a o e z => m.apart a o e (hs a z), by rw [ht]; exact m.lams⟩
theorem Mz.enter {D : Addr} {o : HO} (hD : H D = none) (ho : lj o = true) (m : Mz β M H) : Mz (β.add D) M (upd H D o) := ⟨fun a u e => by
  have pre : ∀ a x, H a = Option.some x → upd H D o a = Option.some x := fun a x e => by rw [ao (bh e hD)]; exact e
  have z := m.obj a u e
  cases u with
  | lst ds => obtain ⟨vs, z, l, r⟩ := z; exact ⟨vs, pre _ _ z, l, fun i v d a b => (r i v d a b).enter hD⟩
  | dk ks ds => obtain ⟨vs, z, hk, l, r⟩ := z; exact ⟨vs, pre _ _ z, hk, l, fun i v d a b => (r i v d a b).enter hD⟩
  | dt ks ds => obtain ⟨vs, z, hk, l, r⟩ := z; exact ⟨vs, pre _ _ z, hk, l, fun i v d a b => (r i v d a b).enter hD⟩
  | cQ => obtain ⟨c, n, z, r⟩ := z; exact ⟨c, n, pre _ _ z, r⟩, fun p hp => by
  obtain ⟨ps, e, t⟩ := m.tabs p hp
  exact ⟨ps, by rw [ao (bh e hD)]; exact e, t⟩, fun a ha => by
  rcases List.mem_cons.mp ha with z | z
  · subst z; exact ⟨_, aP, ho⟩
  · exact (m.hids a z).upd (.inl hD), fun a o e ha => by
  rcases List.mem_cons.mp ha with z | z
  · subst z; rw [m.free hD] at e; cases e
  · exact m.apart a o e z, fun q hq => (m.lams q hq).keep (fun _ e => by rw [ao (bh e hD)]; exact e) fun _ _ _ e => by rw [ao (bh e hD)]; exact e⟩
theorem Rz.over {D : Addr} {o : HO} (hD : D ∈ β.hid) {v : V} {d : Dv} (h : Rz β M H v d) : Rz β M (upd H D o) v d := by
  have pre : ∀ a x, Fz β M a → H a = some x → upd H D o a = some x := fun a x m e => by
    have n : a ≠ D := fun z => by subst z; exact m.2 hD
    rw [ao n]; exact e
  induction h with
  | int i => exact .int i
  | bl b => exact .bl b
  | aC => exact .aC
  | str z => exact .str z
  | tup m e hl h ih => exact .tup m (pre _ _ m e) hl ih
  | lst m e hl h ih => exact .lst m (pre _ _ m e) hl ih
  | dk m e hk hl h ih => exact .dk m (e.map fun _ h => pre _ _ m h) hk hl ih
  | dt m e hk hl h ih => exact .dt m (e.map fun _ h => pre _ _ m h) hk hl ih
  | cG m e m2 e2 hl h ih => exact .cG m (pre _ _ m e) m2 (pre _ _ m2 e2) hl ih
  | set m e => exact .set m (pre _ _ m e)
  | ptr m => exact .ptr m
  | exc m e => exact .exc m (pre _ _ m e)
  | bp m e => exact .bp m (pre _ _ m e)
  | cz m e => exact .cz m (pre _ _ m e)
  | cA e => exact .cA e
  | raw v => exact .raw v
theorem Mz.over {D : Addr} {o : HO} (hD : D ∈ β.hid) (ho : lj o = true) (hM : M D = none) (ht : D ∉ β.tb) (m : Mz β M H) : Mz β M (upd H D o) := ⟨fun a u e => by
  have na : a ≠ D := fun z => by subst z; rw [hM] at e; cases e
  have z := m.obj a u e
  cases u with
  | lst ds => obtain ⟨vs, z, l, r⟩ := z; exact ⟨vs, by rw [ao na]; exact z, l, fun i v d a b => (r i v d a b).over hD⟩
  | dk ks ds => obtain ⟨vs, z, hk, l, r⟩ := z; exact ⟨vs, by rw [ao na]; exact z, hk, l, fun i v d a b => (r i v d a b).over hD⟩
  | dt ks ds => obtain ⟨vs, z, hk, l, r⟩ := z; exact ⟨vs, by rw [ao na]; exact z, hk, l, fun i v d a b => (r i v d a b).over hD⟩
  | cQ => obtain ⟨c, n, z, r⟩ := z; exact ⟨c, n, by rw [ao na]; exact z, r⟩, fun p hp => by
  obtain ⟨ps, e, t⟩ := m.tabs p hp
  have n : p ≠ D := fun z => by subst z; exact ht hp
  exact ⟨ps, by rw [ao n]; exact e, t⟩, fun a ha => (m.hids a ha).upd (.inr ho), m.apart, fun q hq => by
  obtain ⟨o', e', n⟩ := m.hids D hD
  exact (m.lams q hq).keep (fun _ e => by rw [ao (fun z => by subst z; rw [e'] at e; cases e; cases n)]; exact e) fun c _ _ e => by rw [ao (fun z => by subst z; rw [e'] at e; cases e; cases n)]; exact e⟩
theorem Ey.over {D : Addr} {o : HO} (x : Ey M H M1 H1) (hD : H D = none) : Ey M H M1 (upd H1 D o) := ⟨fun b u m h => by
  have nb : b ≠ D := bh h hD
  rw [ao nb]
  exact x.keep b u m h, x.dom, x.new⟩
theorem Mz.Je {D : Addr} (m : Mz β M H) (hD : H D = none) : D ∉ β.tb := fun z => by
  obtain ⟨_, e, _⟩ := m.tabs D z
  rw [hD] at e
  cases e
structure Bx (β cg : Bz) (H : Hp) : Prop where
  P : cg.P = β.P
  w : cg.w = β.w
  K : cg.K = β.K
  tb : cg.tb = β.tb
  old : ∀ a, a ∈ β.hid → a ∈ cg.hid
  new : ∀ a, a ∈ cg.hid → a ∈ β.hid ∨ H a = none
theorem Bx.refl : Bx β β H := ⟨rfl, rfl, rfl, rfl, fun _ h => h, fun _ h => .inl h⟩
theorem Bx.add {D : Addr} (hD : H D = none) : Bx β (β.add D) H := ⟨rfl, rfl, rfl, rfl, fun _ h => List.mem_cons_of_mem _ h, fun a h => by
  rcases List.mem_cons.mp h with z | z
  · exact .inr (z ▸ hD)
  · exact .inl z⟩
theorem Rz.bx {cg : Bz} (b : Bx β cg H) {v : V} {d : Dv} (h : Rz β M H v d) : Rz cg M H v d := by
  have ne : ∀ a x, Fz β M a → H a = some x → Fz cg M a := fun a x m e => ⟨m.1, fun z => by
    rcases b.new a z with q | q
    · exact m.2 q
    · rw [q] at e; cases e⟩
  induction h with
  | int i => exact .int i
  | bl b => exact .bl b
  | aC => exact .aC
  | str z => exact .str z
  | tup m e hl h ih => exact .tup (ne _ _ m e) e hl ih
  | lst m e hl h ih => exact .lst (ne _ _ m e) e hl ih
  | dk m e hk hl h ih => exact .dk (ne _ _ m e.there.choose_spec) e hk hl ih
  | dt m e hk hl h ih => exact .dt (ne _ _ m e.there.choose_spec) e hk hl ih
  | cG m e m2 e2 hl h ih => exact .cG (ne _ _ m e) e (ne _ _ m2 e2) e2 hl ih
  | set m e => exact .set (ne _ _ m e) (by rw [b.P, b.w]; exact e)
  | ptr m => exact .ptr m
  | exc m e => exact .exc (ne _ _ m e) e
  | bp m e => exact .bp (ne _ _ m e) e
  | cz m e => exact .cz (ne _ _ m e) e
  | cA e => exact .cA (by rw [b.K]; exact e)
  | raw v => exact .raw v
end
inductive Pin (M : Mh) : Dv → Prop where
  | int (i : Int) : Pin M (.int i)
  | bl (b : Bool) : Pin M (.bl b)
  | aC : Pin M .aC
  | str (z : Str) : Pin M (.str z)
  | tup {ds : List Dv} (h : ∀ d ∈ ds, Pin M d) : Pin M (.tup ds)
  | lst {ds : List Dv} (h : ∀ d ∈ ds, Pin M d) : Pin M (.lst ds)
  | set (ns : List Int) : Pin M (.set ns)
  | ptr {a : Addr} (h : (M a).isSome = true) : Pin M (.ptr a)
  | exc (C : Addr) : Pin M (.exc C)
  | bp (ns : List Int) : Pin M (.bp ns)
  | raw (v : V) : Pin M (.raw v)
  | dk {ks : List Key} {ds : List Dv} (h : ∀ d ∈ ds, Pin M d) : Pin M (.dk ks ds)
  | dt {ks : List (List Key)} {ds : List Dv} (h : ∀ d ∈ ds, Pin M d) : Pin M (.dt ks ds)
  | cG {f c : Addr} {o oc : Obj} {vs : List V} {ds : List Dv} (h : ∀ d ∈ ds, Pin M d) : Pin M (.cG f o c oc vs ds)
theorem Rz.pin {β : Bz} {M : Mh} {H : Hp} {v : V} {d : Dv} (h : Rz β M H v d) : Pin M d := by
  induction h with
  | int i => exact .int i
  | bl b => exact .bl b
  | aC => exact .aC
  | str z => exact .str z
  | tup m e hl h ih =>
    refine .tup fun d hd => ?_
    obtain ⟨i, hi⟩ := List.mem_iff_getElem?.mp hd
    have h1 := (List.getElem?_eq_some_iff.mp hi).1
    exact ih i _ d (List.getElem?_eq_getElem (by omega)) hi
  | lst m e hl h ih =>
    refine .lst fun d hd => ?_
    obtain ⟨i, hi⟩ := List.mem_iff_getElem?.mp hd
    have h1 := (List.getElem?_eq_some_iff.mp hi).1
    exact ih i _ d (List.getElem?_eq_getElem (by omega)) hi
  | dk m e hk hl h ih =>
    refine .dk fun d hd => ?_
    obtain ⟨i, hi⟩ := List.mem_iff_getElem?.mp hd
    have h1 := (List.getElem?_eq_some_iff.mp hi).1
    exact ih i _ d (List.getElem?_eq_getElem (by omega)) hi
  | dt m e hk hl h ih =>
    refine .dt fun d hd => ?_
    obtain ⟨i, hi⟩ := List.mem_iff_getElem?.mp hd
    have h1 := (List.getElem?_eq_some_iff.mp hi).1
    exact ih i _ d (List.getElem?_eq_getElem (by omega)) hi
  | cG m e m2 e2 hl h ih =>
    refine .cG fun d hd => ?_
    obtain ⟨i, hi⟩ := List.mem_iff_getElem?.mp hd
    have h1 := (List.getElem?_eq_some_iff.mp hi).1
    exact ih i _ d (List.getElem?_eq_getElem (by omega)) hi
  | set m e => exact .set _
  | ptr m => exact .ptr m
  | exc m e => exact .exc _
  | bp m e => exact .bp _
  | cz m e => exact .bp _
  | cA e => exact .bp _
  | raw v => exact .raw v
noncomputable def Mo.items : Mo → List Dv
  | .lst ds => ds
  | .dk _ ds => ds
  | .dt _ ds => ds
  | .cQ => []
noncomputable def Wf (M : Mh) : Prop := ∀ b o, M b = some o → ∀ d ∈ o.items, Pin M d
theorem gz.Kw {β : Bz} {M : Mh} {H : Hp} {a : Addr} {o : Mo} (h : gz β M H a o) : ∃ vs, aT β M H vs o.items := by
  cases o with
  | lst ds => obtain ⟨vs, _, rs⟩ := h; exact ⟨vs, rs⟩
  | dk ks ds => obtain ⟨vs, _, _, rs⟩ := h; exact ⟨vs, rs⟩
  | dt ks ds => obtain ⟨vs, _, _, rs⟩ := h; exact ⟨vs, rs⟩
  | cQ => exact ⟨[], .nil⟩
theorem Mz.wf {β : Bz} {M : Mh} {H : Hp} (m : Mz β M H) : Wf M := fun b o e d hd => by
  obtain ⟨vs, rs⟩ := (m.obj b _ e).Kw
  obtain ⟨i, hi⟩ := List.mem_iff_getElem?.mp hd
  obtain ⟨v, _, r⟩ := rs.get hi
  exact r.pin
noncomputable abbrev aA := List (Option Dv)
noncomputable abbrev ZK := Dv → Mh → Prop
noncomputable abbrev aE := aA → Mh → ZK → Prop
noncomputable abbrev cj := aA → Mh → (Bool → Mh → Prop) → Prop
noncomputable abbrev dJ := aA → Mh → (List Dv → Mh → Prop) → Prop
structure eR where
  nx : aA → Mh → Prop
  rt : ZK
  bk : aA → Mh → Prop := fun _ _ => False
  ct : aA → Mh → Prop := fun _ _ => False
noncomputable abbrev bA := eR → aA → Mh → Prop
noncomputable abbrev cm := Dv → aA → Mh → (aA → Mh → Prop) → Prop
noncomputable abbrev tW := List Dv → aA → Mh → (aA → Mh → Prop) → Prop
noncomputable abbrev dF := aA → Mh → (List Dv → Mh → Prop) → Prop
structure Gz extends Bz where
  M0 : Mh
  H0 : Hp
structure Zr (Γ : Gz) (β : Bz) (M : Mh) (ρ : aA) (σ : St) (H : Hp) : Prop where
  eP : β.P = Γ.P
  ew : β.w = Γ.w
  eK : β.K = Γ.K
  et : β.tb = Γ.tb
  sub : ∀ a, a ∈ Γ.hid → a ∈ β.hid
  wf : Wf Γ.M0
  ent : Ey Γ.M0 Γ.H0 M H
  mz : Mz β M H
  len : ρ.length = σ.length
  at' : ∀ (i : Nat) (d : Dv), ρ[i]? = some (some d) → ∃ v, σ[i]? = some (some v) ∧ Rz β M H v d
section
variable {Γ : Gz} {β : Bz} {M M' : Mh} {ρ : aA} {σ : St} {H H' : Hp}
theorem Zr.step (z : Zr Γ β M ρ σ H) (x : Ex β M H M' H') : Zr Γ β M' ρ σ H' := ⟨z.eP, z.ew, z.eK, z.et, z.sub, z.wf, z.ent.trans x.toEy, x.mz, z.len, fun i d e => let ⟨v, h, r⟩ := z.at' i d e; ⟨v, h, r.ex x⟩⟩
theorem Zr.set (z : Zr Γ β M ρ σ H) (i : Nat) {v : V} {d : Dv} (r : Rz β M H v d) : Zr Γ β M (ρ.set i (some d)) (σ.set i (some v)) H := ⟨z.eP, z.ew, z.eK, z.et, z.sub, z.wf, z.ent, z.mz, by simp [z.len], fun j e h => by
  rw [List.getElem?_set] at h ⊢
  rw [z.len] at h
  split at h
  · rename_i q
    rw [if_pos q]
    split at h
    · rename_i q2
      rw [if_pos q2]
      cases h
      exact ⟨v, rfl, r⟩
    · cases h
  · rename_i q
    rw [if_neg q]
    exact z.at' j e h⟩
end
noncomputable def lE (Γ : Gz) (p : aE) : TE := fun σ H Q => ∃ (β : Bz) (ρ : aA) (M : Mh) (Q' : ZK), Zr Γ β M ρ σ H ∧ p ρ M Q' ∧ ∀ d M' v H', Ex β M H M' H' → Rz β M' H' v d → Q' d M' → Q v H'
noncomputable def lT (Γ : Gz) (p : cj) : TT := fun σ H Q => ∃ (β : Bz) (ρ : aA) (M : Mh) (Q' : Bool → Mh → Prop), Zr Γ β M ρ σ H ∧ p ρ M Q' ∧ ∀ b M' H', Ex β M H M' H' → Q' b M' → Q b H'
noncomputable def lA (Γ : Gz) (p : dJ) : TA := fun σ H Q => ∃ (β : Bz) (ρ : aA) (M : Mh) (Q' : List Dv → Mh → Prop), Zr Γ β M ρ σ H ∧ p ρ M Q' ∧ ∀ ds M' vs H', Ex β M H M' H' → aT β M' H' vs ds → Q' ds M' → Q vs H'
structure Ev (β : Bz) (M : Mh) (H : Hp) (M' : Mh) (H' : Hp) : Prop where
  keep : ∀ b o, M b = none → H b = some o → H' b = some o ∨ ∃ o', Tg o o' ∧ H' b = some o'
  new : ∀ a o, M a = none → H a = some o → M' a = none
  mz : Mz β M' H'
theorem Ex.ev {β : Bz} {M M' : Mh} {H H' : Hp} (x : Ex β M H M' H') : Ev β M H M' H' := ⟨x.keep, x.new, x.mz⟩
theorem Ev.refl {β : Bz} {M : Mh} {H : Hp} (m : Mz β M H) : Ev β M H M H := (Ex.refl m).ev
theorem Ev.trans {β : Bz} {M M1 M2 : Mh} {H H1 H2 : Hp} (x : Ev β M H M1 H1) (y : Ev β M1 H1 M2 H2) : Ev β M H M2 H2 := by
  refine ⟨fun b o hm h => ?_, fun a o hm h => ?_, y.mz⟩
  · have iT := x.new b o hm h
    rcases x.keep b o hm h with q | ⟨o1, t, q⟩
    · exact y.keep b o iT q
    · rcases y.keep b _ iT q with q2 | ⟨o2, t2, q2⟩
      · exact .inr ⟨o1, t, q2⟩
      · exact .inr ⟨o2, t.trans t2, q2⟩
  · have iT := x.new a o hm h
    rcases x.keep a o hm h with q | ⟨o1, t, q⟩
    · exact y.new a _ iT q
    · exact y.new a _ iT q
structure tX (Γ : Gz) (β : Bz) (M : Mh) (H : Hp) (D' : eR) (D : Ends) : Prop where
  nx : ∀ bM M' aJ H', Ev β M H M' H' → Zr Γ β M' bM aJ H' → D'.nx bM M' → D.nx aJ H'
  rt : ∀ d M' v H', Ev β M H M' H' → Ey Γ.M0 Γ.H0 M' H' → Rz β M' H' v d → D'.rt d M' → D.rt v H'
  bk : ∀ bM M' aJ H', Ev β M H M' H' → Zr Γ β M' bM aJ H' → D'.bk bM M' → D.bk aJ H'
  ct : ∀ bM M' aJ H', Ev β M H M' H' → Zr Γ β M' bM aJ H' → D'.ct bM M' → D.ct aJ H'
theorem tX.step {Γ : Gz} {β : Bz} {M M1 : Mh} {H H1 : Hp} {D' : eR} {D : Ends} (r : tX Γ β M H D' D) (x : Ev β M H M1 H1) : tX Γ β M1 H1 D' D :=
  ⟨fun a b c d y => r.nx a b c d (x.trans y), fun a b c d y => r.rt a b c d (x.trans y), fun a b c d y => r.bk a b c d (x.trans y), fun a b c d y => r.ct a b c d (x.trans y)⟩
noncomputable def lS (Γ : Gz) (p : bA) : TS := fun D σ H => ∃ (β : Bz) (ρ : aA) (M : Mh) (D' : eR), Zr Γ β M ρ σ H ∧ p D' ρ M ∧ tX Γ β M H D' D
noncomputable def lG (Γ : Gz) (p : cm) : TG := fun x σ H N => ∃ (β : Bz) (d : Dv) (ρ : aA) (M : Mh) (N' : aA → Mh → Prop), Zr Γ β M ρ σ H ∧ Rz β M H x d ∧ p d ρ M N' ∧ ∀ bM M' aJ H', Ex β M H M' H' → Zr Γ β M' bM aJ H' → N' bM M' → N aJ H'
noncomputable def zG (β : Bz) (J : It) (ds : List Dv) (M : Mh) (H : Hp) : Prop := ∀ cg M' H', Bx β cg H → Ey M H M' H' → Mz cg M' H' → ∀ i, (i < ds.length → J.go i H' ∧ ∀ x mB, J.yld i H' x mB → Ex cg M' H' M' mB ∧ ∃ d, ds[i]? = some d ∧ Rz cg M' mB x d) ∧ (ds.length ≤ i → J.stop i H')
noncomputable def lI (Γ : Gz) (p : dF) : TI := fun σ H R => ∃ (β : Bz) (ρ : aA) (M : Mh) (R' : List Dv → Mh → Prop), Zr Γ β M ρ σ H ∧ p ρ M R' ∧ ∀ ds M' H' J, Ex β M H M' H' → zG β J ds M' H' → R' ds M' → R J H'
noncomputable abbrev QE (Γ : Gz) (X : Cx) (e : Expr) (p : aE) : Prop := PE X e (lE Γ p)
noncomputable abbrev QT (Γ : Gz) (X : Cx) (e : Expr) (p : cj) : Prop := PT X e (lT Γ p)
noncomputable abbrev QW (Γ : Gz) (X : Cx) (e : Expr) (p : cj) : Prop := PW X e (lT Γ p)
noncomputable abbrev QA (Γ : Gz) (X : Cx) (es : List Expr) (p : dJ) : Prop := PA X es (lA Γ p)
noncomputable abbrev QS (Γ : Gz) (X : Cx) (s : Stmt) (p : bA) : Prop := PS X s (lS Γ p)
noncomputable abbrev il (Γ : Gz) (X : Cx) (s : List Stmt) (p : bA) : Prop := dO X s (lS Γ p)
noncomputable abbrev QG (Γ : Gz) (X : Cx) (e : Expr) (p : cm) : Prop := PG X e (lG Γ p)
noncomputable abbrev QI (Γ : Gz) (X : Cx) (tg e : Expr) (p : dF) : Prop := PI X tg e (lI Γ p)
section
variable {X : Cx}
theorem PE.imp {e : Expr} {t t' : TE} (h : PE X e t) (i : ∀ σ H Q, t' σ H Q → t σ H Q) : PE X e t' := ⟨fun pins s σ H Q I q => h pins s σ H Q I (i _ _ _ q)⟩
theorem PT.imp {e : Expr} {t t' : TT} (h : PT X e t) (i : ∀ σ H Q, t' σ H Q → t σ H Q) : PT X e t' := ⟨fun pins s σ H Q I q => h pins s σ H Q I (i _ _ _ q)⟩
theorem PW.imp {e : Expr} {t t' : TT} (h : PW X e t) (i : ∀ σ H Q, t' σ H Q → t σ H Q) : PW X e t' := fun wh pins s σ H Q I q => h wh pins s σ H Q I (i _ _ _ q)
theorem PA.imp {e : List Expr} {t t' : TA} (h : PA X e t) (i : ∀ σ H Q, t' σ H Q → t σ H Q) : PA X e t' := ⟨fun pos pins s σ H Q I q => h pos pins s σ H Q I (i _ _ _ q)⟩
theorem PS.imp {e : Stmt} {t t' : TS} (h : PS X e t) (i : ∀ D σ H, t' D σ H → t D σ H) : PS X e t' := ⟨fun pins s σ H D I q => h pins s σ H D I (i _ _ _ q)⟩
theorem dO.imp {e : List Stmt} {t t' : TS} (h : dO X e t) (i : ∀ D σ H, t' D σ H → t D σ H) : dO X e t' := ⟨fun pins s σ H D I q => h pins s σ H D I (i _ _ _ q)⟩
theorem PG.imp {e : Expr} {t t' : TG} (h : PG X e t) (i : ∀ v σ H Q, t' v σ H Q → t v σ H Q) : PG X e t' := fun pins s σ H v u Q I r q => h pins s σ H v u Q I r (i _ _ _ _ q)
theorem PI.imp {tg e : Expr} {t t' : TI} (h : PI X tg e t) (i : ∀ σ H Q, t' σ H Q → t σ H Q) : PI X tg e t' := fun pins s σ H Q I q => h pins s σ H Q I (i _ _ _ q)
theorem jK.imp {e : List Expr} {t t' : TT} (h : jK X e t) (i : ∀ σ H Q, t' σ H Q → t σ H Q) : jK X e t' := fun pins s σ H Q I q => h pins s σ H Q I (i _ _ _ q)
variable {Γ : Gz} {a b c : Expr} {pa pb pc : aE} {pos : Pos}
noncomputable def zVar (i : Nat) : aE := fun ρ M Q => match ρ[i]? with | some (some d) => Q d M | _ => False
noncomputable def zC (d : Dv) : aE := fun _ M Q => Q d M
theorem DN {i : Nat} {x : Str} (hN : X.N[i]? = some x) (hv : pF X.env.scope x) (hd : (x == ("__debug__" : Str)) = false := by decide) (fx : (x == ("__classdict__" : Str)) = false := by decide) : QE Γ X (.Name x pos) (zVar i) :=
  (uN hN hv hd fx).imp fun σ H Q ⟨β, ρ, M, Q', z, h, q⟩ => by
    unfold zVar at h
    split at h
    · rename_i d e
      obtain ⟨v, e2, r⟩ := z.at' i d e
      exact ⟨v, e2, q d M v H (.refl z.mz) r h⟩
    · exact h.elim
theorem qc {e : Expr} {v : V} {d : Dv} (h : PE X e (tC v)) (r : ∀ β M H, Rz β M H v d) : QE Γ X e (zC d) := h.imp fun σ H Q ⟨β, ρ, M, Q', z, h, q⟩ => q d M v H (.refl z.mz) (r β M H) h
theorem ai {i j pos} : QE Γ X (.Constant (.int i) j pos) (zC (.int i)) := qc B1 fun _ _ _ => .int _
theorem fE {b j pos} : QE Γ X (.Constant (.bool b) j pos) (zC (.bl b)) := qc Fv fun _ _ _ => .bl _
theorem qp {j pos} : QE Γ X (.Constant .none j pos) (zC .aC) := qc B2 fun _ _ _ => .aC
theorem iU {x j pos} : QE Γ X (.Constant (.str x) j pos) (zC (.str x)) := qc B3 fun _ _ _ => .str _
theorem yb {x : Str} {i : Int} {u : Value} (hg : Gl X x) (hm : X.mg x = some u) (r : RelV (.int i) u) (hd : (x == ("__debug__" : Str)) = false := by decide) : QE Γ X (.Name x pos) (zC (.int i)) := qc (sr hg hm r hd) fun _ _ _ => .int _
theorem aQ {x : Str} {v : V} {u : Value} (hg : Gl X x) (hm : X.mg x = some u) (r : RelV v u) (hd : (x == ("__debug__" : Str)) = false := by decide) : QE Γ X (.Name x pos) (zC (.raw v)) := qc (sr hg hm r hd) fun _ _ _ => .raw _
theorem iV {x : Str} {v : V} {u : Value} (hg : Gl X x) (hm : X.mg x = none) (hv : bootBuiltins x = some u) (r : RelV v u) (hn : x ≠ "__name__" := by decide) (hd : (x == ("__debug__" : Str)) = false := by decide) : QE Γ X (.Name x pos) (zC (.raw v)) := qc (z9 hg hm hv r hn hd) fun _ _ _ => .raw _
noncomputable abbrev cC := Dv → Dv → Mh → ZK → Prop
noncomputable def qt (Γ : Gz) (r : R2) (z : cC) : Prop := ∀ (β : Bz) x y d e M H Q Q', β.P = Γ.P → β.w = Γ.w → β.K = Γ.K → Mz β M H → Rz β M H x d → Rz β M H y e → z d e M Q' → (∀ d' M' v H', Ex β M H M' H' → Rz β M' H' v d' → Q' d' M' → Q v H') → r x y H Q
noncomputable def eH (Γ : Gz) (X : Cx) (f : Value → Value → Sem Value) (z : cC) : Prop := ∃ r, OpR X f r ∧ qt Γ r z
noncomputable def zOp (z : cC) (pa pb : aE) : aE := fun ρ M Q => pa ρ M fun d M1 => pb ρ M1 fun e M2 => z d e M2 Q
theorem tY {r : R2} {z : cC} (hz : qt Γ r z) {σ : St} {H : Hp} {Q : VK} (h : lE Γ (zOp z pa pb) σ H Q) : u5 r (lE Γ pa) (lE Γ pb) σ H Q := by
  obtain ⟨β, ρ, M, Q', zr, h, q⟩ := h
  exact ⟨β, ρ, M, _, zr, h, fun d M1 v H1 x1 r1 h1 => ⟨β, ρ, M1, _, zr.step x1, h1, fun e M2 u H2 x2 r2 h2 => hz β v u d e M2 H2 Q Q' zr.eP zr.ew zr.eK x2.mz (r1.ex x2) r2 h2 fun d' M' v' H' x3 r3 q3 => q _ _ _ _ (x1.trans (x2.trans x3)) r3 q3⟩⟩
theorem aI {op : Operator} {z : cC} (ho : eH Γ X (binaryOp op) z) (ha : QE Γ X a pa) (hb : QE Γ X b pb) : QE Γ X (.BinOp a op b pos) (zOp z pa pb) := by
  obtain ⟨r, h1, h2⟩ := ho
  exact (FE h1 ha hb).imp fun σ H Q h => tY h2 h
theorem AJ {op : CmpOp} {z : cC} (ho : eH Γ X (compareOp op) z) (ha : QE Γ X a pa) (hb : QE Γ X b pb) (hm : behindInMarks op b = false) : QE Γ X (.Compare a [op] [b] pos) (zOp z pa pb) := by
  obtain ⟨r, h1, h2⟩ := ho
  exact (Ag h1 ha hb hm).imp fun σ H Q h => tY h2 h
noncomputable def zBool (Q : Bool → Mh → Prop) : ZK := fun d M => match d with | .bl k => Q k M | _ => False
theorem gW {Q : Bool → Mh → Prop} {d : Dv} {M : Mh} (h : zBool Q d M) : ∃ k, d = .bl k ∧ Q k M := by
  unfold zBool at h
  split at h
  · exact ⟨_, rfl, h⟩
  · exact h.elim
noncomputable def zTest (p : aE) : cj := fun ρ M Q => p ρ M (zBool Q)
theorem qu {p : aE} {t : TE} (i : ∀ σ H Q, lE Γ p σ H Q → t σ H Q) {σ : St} {H : Hp} {Q : Bool → Hp → Prop} (h : lT Γ (zTest p) σ H Q) : tv t σ H Q := by
  obtain ⟨β, ρ, M, Q', zr, h, q⟩ := h
  refine i _ _ _ ⟨β, ρ, M, _, zr, h, fun d M1 v H1 x1 r1 h1 => ?_⟩
  obtain ⟨k, rfl, h2⟩ := gW h1
  exact ⟨k, cW r1, q k M1 H1 x1 h2⟩
theorem bC {op : CmpOp} {z : cC} (ho : eH Γ X (compareOp op) z) (ha : QE Γ X a pa) (hb : QE Γ X b pb) (hm : behindInMarks op b = false) : QT Γ X (.Compare a [op] [b] pos) (zTest (zOp z pa pb)) := by
  obtain ⟨r, h1, h2⟩ := ho
  exact (Ah h1 ha hb hm).imp fun σ H Q h => qu (fun _ _ _ => tY h2) h
theorem fF {e : Expr} {p : aE} (h : QE Γ X e p) (he : ∀ whole, isTrue e X.env whole = (do let v ← whole; standAt e.pos; holding [v] (truthy v)) := by intro _; rfl) : QT Γ X e (zTest p) :=
  (B4 h he).imp fun σ H Q h => qu (fun _ _ _ h => h) h
noncomputable def zChain (z z' : cC) (pa pb pc : aE) : aE := fun ρ M Q => pa ρ M fun x M1 => pb ρ M1 fun y M2 => z x y M2 (zBool fun k M3 => if k = true then pc ρ M3 fun u M4 => z' y u M4 Q else Q (.bl false) M3)
theorem sM {r r' : R2} {z z' : cC} (hz : qt Γ r z) (Kx : qt Γ r' z') {σ : St} {H : Hp} {Q : VK} (h : lE Γ (zChain z z' pa pb pc) σ H Q) : pK r r' (lE Γ pa) (lE Γ pb) (lE Γ pc) σ H Q := by
  obtain ⟨β, ρ, M, Q', zr, h, q⟩ := h
  refine ⟨β, ρ, M, _, zr, h, fun d M1 v H1 x1 r1 h1 => ⟨β, ρ, M1, _, zr.step x1, h1, fun e M2 u H2 x2 r2 h2 => hz β v u d e M2 H2 _ _ zr.eP zr.ew zr.eK x2.mz (r1.ex x2) r2 h2 fun d' M3 v' H3 x3 r3 h3 => ?_⟩⟩
  obtain ⟨k, rfl, h4⟩ := gW h3
  have DP := x1.trans (x2.trans x3)
  refine ⟨k, cW r3, ?_⟩
  cases k with
  | true =>
    rw [if_pos rfl] at h4 ⊢
    exact ⟨β, ρ, M3, _, zr.step DP, h4, fun f M4 g H4 x4 r4 h5 => Kx β u g e f M4 H4 _ _ zr.eP zr.ew zr.eK x4.mz ((r2.ex x3).ex x4) r4 h5 fun d5 M5 v5 H5 x5 r5 q5 => q _ _ _ _ (DP.trans (x4.trans x5)) r5 q5⟩
  | false =>
    rw [if_neg Bool.false_ne_true] at h4 ⊢
    exact q _ _ _ _ DP (.bl _) h4
theorem yc {op gQ : CmpOp} {z z' : cC} (ho : eH Γ X (compareOp op) z) (gN : eH Γ X (compareOp gQ) z') (ha : QE Γ X a pa) (hb : QE Γ X b pb) (hc : QE Γ X c pc) (hm : lastMarks [op, gQ] [b, c] = false := by with_unfolding_all rfl) :
    QE Γ X (.Compare a [op, gQ] [b, c] pos) (zChain z z' pa pb pc) := by
  obtain ⟨r, h1, h2⟩ := ho
  obtain ⟨r', DQ, DR⟩ := gN
  exact (xo h1 DQ ha hb hc hm).imp fun σ H Q h => sM h2 DR h
theorem ye {op gQ : CmpOp} {z z' : cC} (ho : eH Γ X (compareOp op) z) (gN : eH Γ X (compareOp gQ) z') (ha : QE Γ X a pa) (hb : QE Γ X b pb) (hc : QE Γ X c pc) (hm : lastMarks [op, gQ] [b, c] = false := by with_unfolding_all rfl) :
    QT Γ X (.Compare a [op, gQ] [b, c] pos) (zTest (zChain z z' pa pb pc)) := by
  obtain ⟨r, h1, h2⟩ := ho
  obtain ⟨r', DQ, DR⟩ := gN
  exact (xq h1 DQ ha hb hc hm).imp fun σ H Q h => qu (fun _ _ _ => sM h2 DR) h
variable {tA uO : cj} {rest : List Expr}
noncomputable def zAnd (t u : cj) : cj := fun ρ M Q => t ρ M fun c M1 => if c = true then u ρ M1 Q else Q false M1
noncomputable def zOr (t u : cj) : cj := fun ρ M Q => t ρ M fun c M1 => if c = true then Q true M1 else u ρ M1 Q
noncomputable def zNot (t : cj) : cj := fun ρ M Q => t ρ M fun c M1 => Q (!c) M1
theorem vM (ha : QT Γ X a tA) : QW Γ X (.BoolOp .Or [a] pos) tA := B5 ha
theorem zH (ha : QT Γ X a tA) (hb : QW Γ X (.BoolOp .Or (b :: rest) pos) uO) : QW Γ X (.BoolOp .Or (a :: b :: rest) pos) (zOr tA uO) :=
  (Fw ha hb).imp fun σ H Q ⟨β, ρ, M, Q', zr, h, q⟩ => ⟨β, ρ, M, _, zr, h, fun k M1 H1 x1 h1 => by
    cases k with
    | false => rw [if_neg Bool.false_ne_true] at h1 ⊢; exact ⟨β, ρ, M1, _, zr.step x1, h1, fun k2 M2 H2 x2 h2 => q _ _ _ (x1.trans x2) h2⟩
    | true => rw [if_pos rfl] at h1 ⊢; exact q _ _ _ x1 h1⟩
theorem gh (ha : QT Γ X a tA) : QT Γ X (.UnaryOp .Not a pos) (zNot tA) := (B6 ha).imp fun σ H Q ⟨β, ρ, M, Q', zr, h, q⟩ => ⟨β, ρ, M, _, zr, h, fun k M1 H1 x1 h1 => q _ _ _ x1 h1⟩
theorem QW.pt {e : Expr} {t : cj} (h : QW Γ X e t) : QT Γ X e t := PW.pt h
noncomputable def zAndV (pa pb : aE) : aE := fun ρ M Q => pa ρ M (zBool fun c M1 => if c = true then pb ρ M1 Q else Q (.bl false) M1)
noncomputable def zOrV (pa pb : aE) : aE := fun ρ M Q => pa ρ M (zBool fun c M1 => if c = true then Q (.bl true) M1 else pb ρ M1 Q)
noncomputable def zNotV (pa : aE) : aE := fun ρ M Q => pa ρ M (zBool fun c M1 => Q (.bl (!c)) M1)
theorem qw {op} (h : QE Γ X a pa) : QE Γ X (.BoolOp op [a] pos) pa := B7 h
theorem qy (ha : QE Γ X a pa) (hb : QE Γ X (.BoolOp .And (b :: rest) pos) pb) : QE Γ X (.BoolOp .And (a :: b :: rest) pos) (zAndV pa pb) :=
  (B8 ha hb).imp fun σ H Q ⟨β, ρ, M, Q', zr, h, q⟩ => ⟨β, ρ, M, _, zr, h, fun d M1 v H1 x1 r1 h1 => by
    obtain ⟨k, rfl, h2⟩ := gW h1
    refine ⟨k, cW r1, ?_⟩
    cases k with
    | true => rw [if_pos rfl] at h2 ⊢; exact ⟨β, ρ, M1, _, zr.step x1, h2, fun d2 M2 v2 H2 x2 r2 h2 => q _ _ _ _ (x1.trans x2) r2 h2⟩
    | false => rw [if_neg Bool.false_ne_true] at h2 ⊢; exact q _ _ _ _ x1 (.bl _) h2⟩
theorem DS (ha : QE Γ X a pa) : QE Γ X (.UnaryOp .Not a pos) (zNotV pa) := (B9 ha).imp fun σ H Q ⟨β, ρ, M, Q', zr, h, q⟩ => ⟨β, ρ, M, _, zr, h, fun d M1 v H1 x1 r1 h1 => by
    obtain ⟨k, rfl, h2⟩ := gW h1
    exact ⟨k, cW r1, q _ _ _ _ x1 (.bl _) h2⟩⟩
noncomputable def zIfE (t : cj) (pa pb : aE) : aE := fun ρ M Q => t ρ M fun c M1 => if c = true then pa ρ M1 Q else pb ρ M1 Q
noncomputable def zNil : dJ := fun _ M Q => Q [] M
noncomputable def zCons (p : aE) (r : dJ) : dJ := fun ρ M Q => p ρ M fun d M1 => r ρ M1 fun ds M2 => Q (d :: ds) M2
variable {es : List Expr} {za : dJ}
theorem ae : QA Γ X [] zNil := CD.imp fun σ H Q ⟨β, ρ, M, Q', zr, h, q⟩ => q [] M [] H (.refl zr.mz) .nil h
theorem aa {e : Expr} (ha : QE Γ X e pa) (hr : QA Γ X es za) (hs : starEach (e :: es) X.env = (false, eval e X.env) :: starEach es X.env := by rfl) : QA Γ X (e :: es) (zCons pa za) :=
  (Aj ha hr hs).imp fun σ H Q ⟨β, ρ, M, Q', zr, h, q⟩ => ⟨β, ρ, M, _, zr, h, fun d M1 v H1 x1 r1 h1 => ⟨β, ρ, M1, _, zr.step x1, h1, fun ds M2 vs H2 x2 r2 h2 => q _ _ _ _ (x1.trans x2) (.cons (r1.ex x2) r2) h2⟩⟩
noncomputable def zTup (p : dJ) : aE := fun ρ M Q => p ρ M fun ds M1 => ds.length ≤ sizeLine ∧ Q (.tup ds) M1
noncomputable def zLst (p : dJ) : aE := fun ρ M Q => p ρ M fun ds M1 => ds.length ≤ sizeLine ∧ Q (.lst ds) M1
noncomputable def zLstP (p : dJ) : aE := fun ρ M Q => p ρ M fun ds M1 => ds.length ≤ sizeLine ∧ ∀ a, M1 a = none → Q (.ptr a) (az M1 a (.lst ds))
theorem dW {x1} (h : QA Γ X es za) : QE Γ X (.Tuple es x1 pos) (zTup za) := (CF h).imp fun σ H Q ⟨β, ρ, M, Q', zr, h, q⟩ => ⟨β, ρ, M, _, zr, h, fun ds M1 vs H1 x1 r1 h1 => ⟨by rw [r1.len]; exact h1.1, fun p hp => by
    have x2 := Ex.lay x1.mz hp (.tup vs)
    exact q _ _ _ _ (x1.trans x2) (fD (x1.mz.fz hp) aP (r1.ex x2)) h1.2⟩⟩
theorem cT (h : QA Γ X es za) : QE Γ X (.List es pos) (zLst za) := (vd h).imp fun σ H Q ⟨β, ρ, M, Q', zr, h, q⟩ => ⟨β, ρ, M, _, zr, h, fun ds M1 vs H1 x1 r1 h1 => ⟨by rw [r1.len]; exact h1.1, fun p hp => by
    have x2 := Ex.lay x1.mz hp (.lst vs)
    exact q _ _ _ _ (x1.trans x2) (mw (x1.mz.fz hp) aP (r1.ex x2)) h1.2⟩⟩
theorem km (h : QA Γ X es za) : QE Γ X (.List es pos) (zLstP za) := (vd h).imp fun σ H Q ⟨β, ρ, M, Q', zr, h, q⟩ => ⟨β, ρ, M, _, zr, h, fun ds M1 vs H1 x1 r1 h1 => ⟨by rw [r1.len]; exact h1.1, fun p hp => by
    have x2 := Ex.own x1.mz (.inr hp) r1
    exact q _ _ _ _ (x1.trans x2) (.ptr (by rw [updM_same]; rfl)) (h1.2 p (x1.mz.free hp))⟩⟩
noncomputable abbrev kT := List Dv → Mh → ZK → Prop
noncomputable def zI (Γ : Gz) (r : List V → Hp → VK → Prop) (z : kT) : Prop := ∀ (β : Bz) xs ds M H Q Q', β.P = Γ.P → β.w = Γ.w → β.K = Γ.K → Mz β M H → aT β M H xs ds → z ds M Q' → (∀ d' M' v H', Ex β M H M' H' → Rz β M' H' v d' → Q' d' M' → Q v H') → r xs H Q
noncomputable def eS (Γ : Gz) (X : Cx) (f : Value) (z : kT) : Prop := ∃ r, cL X f r ∧ zI Γ r z
noncomputable def zCB (z : kT) (p : dJ) : aE := fun ρ M Q => p ρ M fun ds M1 => z ds M1 Q
theorem DT {r : List V → Hp → VK → Prop} {z : kT} (hz : zI Γ r z) {σ : St} {H : Hp} {Q : VK} (h : lE Γ (zCB z za) σ H Q) : CH r (lA Γ za) σ H Q := by
  obtain ⟨β, ρ, M, Q', zr, h, q⟩ := h
  exact ⟨β, ρ, M, _, zr, h, fun ds M1 vs H1 x1 r1 h1 => hz β vs ds M1 H1 _ _ zr.eP zr.ew zr.eK x1.mz r1 h1 fun d' M' v' H' x2 r2 q2 => q _ _ _ _ (x1.trans x2) r2 q2⟩
variable {st : Stmt} {uT : List Stmt} {p p2 : bA} {e : Expr} {pe : aE}
noncomputable def zNext : bA := fun D ρ M => D.nx ρ M
noncomputable def zSeq (p q : bA) : bA := fun D ρ M => p { D with nx := q D } ρ M
theorem qss_nil : il Γ X [] zNext := Aa.imp fun D σ H ⟨β, ρ, M, D', zr, h, r⟩ => r.nx ρ M σ H (.refl zr.mz) zr h
theorem aj (h1 : QS Γ X st p) (h2 : il Γ X uT p2) : il Γ X (st :: uT) (zSeq p p2) := (xf h1 h2).imp fun D σ H ⟨β, ρ, M, D', zr, h, r⟩ =>
  ⟨β, ρ, M, _, zr, h, fun bM M' aJ H' x gi h' => ⟨β, bM, M', D', gi, h', r.step x⟩, r.rt, r.bk, r.ct⟩
theorem au (h1 : QS Γ X st p) : il Γ X [st] p := Ab h1
noncomputable def zDrop (p : aE) : bA := fun D ρ M => p ρ M fun _ M1 => D.nx ρ M1
theorem aY (he : QE Γ X e pe) (hs : swapsWith e none pos.line X.env = pure false := by rfl) : QS Γ X (.Expr e pos) (zDrop pe) := (Ac he hs).imp fun D σ H ⟨β, ρ, M, D', zr, h, r⟩ =>
  ⟨β, ρ, M, _, zr, h, fun d M1 v H1 x1 r1 h1 => r.nx ρ M1 σ H1 x1.ev (zr.step x1) h1⟩
noncomputable def zRet (p : aE) : bA := fun D ρ M => p ρ M D.rt
theorem bD (he : QE Γ X e pe) : QS Γ X (.Return (some e) pos) (zRet pe) := (Ca he).imp fun D σ H ⟨β, ρ, M, D', zr, h, r⟩ => ⟨β, ρ, M, _, zr, h, fun d M' v H' x r1 h1 => r.rt _ _ _ _ x.ev (zr.ent.trans x.toEy) r1 h1⟩
noncomputable def zRetN : bA := fun D _ M => D.rt .aC M
noncomputable def zIfS (c : cj) (p q : bA) : bA := fun D ρ M => c ρ M fun b M1 => if b = true then p D ρ M1 else q D ρ M1
theorem bJ {as bs : List Stmt} {pa pb : bA} (hc : QT Γ X c tA) (ha : il Γ X as pa) (hb : il Γ X bs pb) : QS Γ X (.If c as bs pos) (zIfS tA pa pb) := (FD hc ha hb).imp fun D σ H ⟨β, ρ, M, D', zr, h, r⟩ =>
  ⟨β, ρ, M, _, zr, h, fun k M1 H1 x1 h1 => by
    cases k with
    | true => rw [if_pos rfl] at h1 ⊢; exact ⟨β, ρ, M1, D', zr.step x1, h1, r.step x1.ev⟩
    | false => rw [if_neg Bool.false_ne_true] at h1 ⊢; exact ⟨β, ρ, M1, D', zr.step x1, h1, r.step x1.ev⟩⟩
noncomputable def zNever : bA := fun _ _ _ => False
theorem ll : QS Γ X st zNever := xg.imp fun D σ H ⟨β, ρ, M, D', zr, h, r⟩ => h
theorem bb : il Γ X uT zNever := uS.imp fun D σ H ⟨β, ρ, M, D', zr, h, r⟩ => h
noncomputable def zgName (i : Nat) : cm := fun d ρ M N => N (ρ.set i (some d)) M
theorem bT {i : Nat} {x : Str} (hN : X.N.Nodup) (hi : X.N[i]? = some x) (hx : Loc X.env.scope x) (hf : X.fn x = true ∨ X.env.scope.names.lookup x = some .local := by first | exact .inl rfl | exact .inr rfl | assumption) : QG Γ X (.Name x pos) (zgName i) :=
  (Ad hN hi hx hf).imp fun v σ H N ⟨β, d, ρ, M, N', zr, r, h, q⟩ => q _ _ _ _ (.refl zr.mz) (zr.set i r) h
noncomputable def zgNil : tW := fun ds ρ M N => match ds with | [] => N ρ M | _ => False
noncomputable def zgCons (g : cm) (u : tW) : tW := fun ds ρ M N => match ds with | d :: r => g d ρ M fun bM M' => u r bM M' N | [] => False
noncomputable def zgTup (n : Nat) (u : tW) : cm := fun d ρ M N => match d with | .tup ds => ds.length = n ∧ u ds ρ M N | _ => False
noncomputable def zAsg (p : aE) (g : cm) : bA := fun D ρ M => p ρ M fun d M1 => g d ρ M1 D.nx
theorem F3 {g : cm} {D : Ends} {σ : St} {H : Hp} (h : lS Γ (zAsg pe g) D σ H) : pI (lE Γ pe) (lG Γ g) D σ H := by
  obtain ⟨β, ρ, M, D', zr, h, r⟩ := h
  exact ⟨β, ρ, M, _, zr, h, fun d M1 v H1 x1 r1 h1 => ⟨β, d, ρ, M1, D'.nx, zr.step x1, r1, h1, fun bM M' aJ H' x gi h' => r.nx _ _ _ _ (x1.trans x).ev gi h'⟩⟩
theorem jU {tg : Expr} {g : cm} (he : QE Γ X e pe) (hg : QG Γ X tg g) (hs : swapsWithSole [tg] e pos.line X.env = pure false := by rfl) (hw : swappedStores [tg] e X.env = pure none := by rfl)
    (h1 : (assignEach [tg] X.env).map (·.2) = [assign tg X.env] := by rfl) : QS Γ X (.Assign [tg] e pos) (zAsg pe g) := (Ce he hg hs hw h1).imp fun D σ H h => F3 h
theorem tZ {t : TE} (i : ∀ σ H Q, lE Γ pe σ H Q → t σ H Q) {n : Nat} {D : Ends} {σ : St} {H : Hp} (h : lS Γ (zAsg pe (zgName n)) D σ H) : pI t (o9 n) D σ H := by
  obtain ⟨β, ρ, M, D', zr, h, r⟩ := h
  exact i _ _ _ ⟨β, ρ, M, _, zr, h, fun d M1 v H1 x1 r1 h1 => r.nx _ _ _ _ x1.ev ((zr.step x1).set n r1) h1⟩
theorem aU {i : Nat} {x : Str} {pos' : Pos} (hN : X.N.Nodup) (hi : X.N[i]? = some x) (hx : Loc X.env.scope x) (he : QE Γ X e pe) (hs : swapsWith e (some (.Name x pos')) pos.line X.env = pure false := by rfl) (hf : X.fn x = true ∨ X.env.scope.names.lookup x = some .local := by first | exact .inl rfl | exact .inr rfl | assumption) :
    QS Γ X (.Assign [.Name x pos'] e pos) (zAsg pe (zgName i)) := (Cg hN hi hx he hs hf).imp fun D σ H h => tZ (fun _ _ _ h => h) h
end
section
variable {X : Cx} {Γ : Gz} {β : Bz}
noncomputable def ziTup (p : aE) : dF := fun ρ M R => p ρ M fun d M1 => match d with | .tup ds => R ds M1 | _ => False
noncomputable def ziLst (p : aE) : dF := fun ρ M R => p ρ M fun d M1 => match d with | .lst ds => R ds M1 | _ => False
noncomputable def DU (z : Str) : List Dv := z.cps.toList.map fun c => .str ⟨#[c]⟩
noncomputable def ziStr (p : aE) : dF := fun ρ M R => p ρ M fun d M1 => match d with | .str z => R (DU z) M1 | _ => False
noncomputable def de (lo : Int) (n : Nat) : List Dv := (List.range n).map fun i => .int (lo + (i : Nat))
noncomputable def ziRng1 (p : dJ) : dF := fun ρ M R => p ρ M fun ds M1 => match ds with | [.int j] => -(2 ^ 62) ≤ j ∧ j < 2 ^ 62 ∧ R (de 0 j.toNat) M1 | _ => False
noncomputable def ziRng2 (p : dJ) : dF := fun ρ M R => p ρ M fun ds M1 => match ds with | [.int i, .int j] => (-(2 ^ 62) ≤ i ∧ i < 2 ^ 62 ∧ -(2 ^ 62) ≤ j ∧ j < 2 ^ 62) ∧ R (de i (j - i).toNat) M1 | _ => False
theorem lq {J : It} {vs : List V} {ds : List Dv} {M : Mh} {H : Hp} (r : aT β M H vs ds) (h : ∀ M' H', Ey M H M' H' → Runs J vs H') : zG β J ds M H := fun cg M' H' bx x m i => by
  have q := h M' H' x i
  rw [← r.len]
  refine ⟨fun hi => ⟨(q.1 hi).1, fun v mB y => ?_⟩, q.2⟩
  obtain ⟨e, hv⟩ := (q.1 hi).2 v mB y
  subst e
  obtain ⟨d, hd, rd⟩ := r.get' hv
  exact ⟨.refl m, d, hd, (rd.bx bx).ey x⟩
variable {tg l : Expr} {p : aE} {pa : dJ} {K : PySem.W.Frag}
theorem mC (hK : X.K = K) (hl : QE Γ X l p) : QI Γ X tg l (ziTup p) := (Ax hK hl).imp fun σ H R ⟨β, ρ, M, R', zr, h, q⟩ => ⟨β, ρ, M, _, zr, h, fun d M1 v H1 x1 r1 h1 => by
  revert h1
  split
  · intro h1
    obtain ⟨a, vs, rfl, m, e, rs⟩ := cR r1
    exact ⟨a, rfl, ⟨_, bW.of e⟩, q _ _ _ _ x1 (lq rs fun M' H' x => xJ (bW.of (x.get m.1 e rfl))) h1⟩
  · exact fun h => h.elim⟩
theorem AK (hK : X.K = K) (hl : QE Γ X l p) : QI Γ X tg l (ziLst p) := (xK hK hl).imp fun σ H R ⟨β, ρ, M, R', zr, h, q⟩ => ⟨β, ρ, M, _, zr, h, fun d M1 v H1 x1 r1 h1 => by
  revert h1
  split
  · intro h1
    obtain ⟨a, vs, rfl, m, e, rs⟩ := fo r1
    exact ⟨a, rfl, ⟨_, bQ.of e⟩, q _ _ _ _ x1 (lq rs fun M' H' x => vy (bQ.of (x.get m.1 e rfl))) h1⟩
  · exact fun h => h.elim⟩
theorem vO {lo : Int} {n : Nat} {M : Mh} {H : Hp} : aT β M H ((List.range n).map fun i => V.int (lo + (i : Nat))) (de lo n) := ⟨by simp [de], fun i v d a b => by
  unfold de at b
  rw [List.getElem?_map] at a b
  cases e : (List.range n)[i]? with
  | none => rw [e] at a; cases a
  | some c => rw [e] at a b; cases a; cases b; exact .int _⟩
theorem eh {xs : List V} {d : Dv} {M : Mh} {H : Hp} (r : aT β M H xs [d]) : ∃ v, xs = [v] ∧ Rz β M H v d := by
  match xs, r with
  | [v], r => exact ⟨v, rfl, r.head⟩
  | [], r => exact absurd r.len (by simp)
  | _ :: _ :: _, r => exact absurd r.len (by simp)
theorem gG {xs : List V} {d e : Dv} {M : Mh} {H : Hp} (r : aT β M H xs [d, e]) : ∃ v u, xs = [v, u] ∧ Rz β M H v d ∧ Rz β M H u e := by
  match xs, r with
  | [v, u], r => exact ⟨v, u, rfl, r.head, r.tail.head⟩
  | [], r => exact absurd r.len (by simp)
  | [_], r => exact absurd r.len (by simp)
  | _ :: _ :: _ :: _, r => exact absurd r.len (by simp)
section
variable {e e1 e2 : Expr} {pr pos : Pos}
theorem DV {σ : St} {H : Hp} {R : It → Hp → Prop} (h : lI Γ (ziRng1 pa) σ H R) : zb (lA Γ pa) σ H R := by
  obtain ⟨β, ρ, M, R', zr, h, q⟩ := h
  refine ⟨β, ρ, M, _, zr, h, fun ds M1 vs H1 x1 r1 h1 => ?_⟩
  revert h1
  split
  · rintro ⟨b1, b2, h1⟩
    obtain ⟨v, rfl, r⟩ := eh r1
    rw [aO r]
    exact ⟨_, rfl, b1, b2, q _ _ _ _ x1 (lq vO fun M' H' x => tL) h1⟩
  · exact fun h => h.elim
end
noncomputable def zLoop (g : cm) (tb : bA) (D : eR) : List Dv → aA → Mh → Prop
  | [], ρ, M => D.nx ρ M
  | d :: ds, ρ, M => g d ρ M fun eQ M2 => tb { D with nx := zLoop g tb D ds, ct := zLoop g tb D ds, bk := D.nx } eQ M2
noncomputable def zFor (zi : dF) (g : cm) (tb : bA) : bA := fun D ρ M => zi ρ M fun ds M1 => zLoop g tb D ds ρ M1
noncomputable def zForM (zi : dF) (g : cm) (tb : Mh → bA) : bA := fun D ρ M => zi ρ M fun ds M1 => zLoop g (tb M1) D ds ρ M1
theorem Zr.root {M : Mh} {ρ : aA} {σ : St} {H : Hp} (z : Zr Γ β M ρ σ H) : Zr ⟨β, M, H⟩ β M ρ σ H := ⟨rfl, rfl, rfl, rfl, fun _ h => h, z.mz.wf, .refl, z.mz, z.len, z.at'⟩
theorem Zr.vP {M M1 : Mh} {ρ Hv : aA} {σ nU : St} {H H1 : Hp} (z : Zr Γ β M ρ σ H) (y : Zr ⟨β, M, H⟩ β M1 Hv nU H1) : Zr Γ β M1 Hv nU H1 := ⟨z.eP, z.ew, z.eK, z.et, z.sub, z.wf, z.ent.trans y.ent, y.mz, y.len, y.at'⟩
theorem F4 {zi : dF} {g : cm} {tb : Mh → bA} {t : TS} (hb : ∀ aV : Gz, aV.P = Γ.P → aV.w = Γ.w → aV.K = Γ.K → aV.tb = Γ.tb → ∀ D σ H, lS aV (tb aV.M0) D σ H → t D σ H) {tg : TG} (hg : ∀ aV : Gz, aV.P = Γ.P → aV.w = Γ.w → aV.K = Γ.K → aV.tb = Γ.tb → ∀ x σ H N, lG aV g x σ H N → tg x σ H N) {D : Ends} {σ : St} {H : Hp} (h : lS Γ (zForM zi g tb) D σ H) : Cp (lI Γ zi) tg t D σ H := by
  obtain ⟨β, ρ, M, D', zr, h, r⟩ := h
  refine ⟨β, ρ, M, _, zr, h, fun ds M1 H1 J x1 it h1 => ?_⟩
  have jB := zr.step x1
  refine ⟨fun i m aJ H' => m = ds.length - i ∧ i ≤ ds.length ∧ ∃ bM M', Zr ⟨β, M1, H1⟩ β M' bM aJ H' ∧ zLoop g (tb M1) D' (ds.drop i) bM M', ⟨ds.length, rfl, Nat.zero_le _, ρ, M1, jB.root, h1⟩, ?_⟩
  rintro i m aJ H' ⟨rfl, hi, bM, M', gi, h'⟩
  have ev : ∀ {M2 : Mh} {eQ : aA} {gb : St} {H2 : Hp}, Zr ⟨β, M1, H1⟩ β M2 eQ gb H2 → Ev β M H M2 H2 := fun z => x1.ev.trans ⟨z.ent.keep, z.ent.new, z.mz⟩
  by_cases c7 : i < ds.length
  · have q := (it β M' H' .refl gi.ent gi.mz i).1 c7
    refine .inr ⟨q.1, fun gb H2 => ∃ eQ M2, Zr ⟨β, M1, H1⟩ β M2 eQ gb H2 ∧ zLoop g (tb M1) D' (ds.drop (i + 1)) eQ M2, fun gb H2 ⟨eQ, M2, Ky, h2⟩ => ⟨ds.length - (i + 1), by omega, rfl, c7, eQ, M2, Ky, h2⟩, fun v mB y => ?_⟩
    obtain ⟨x2, d, hd, rd⟩ := q.2 v mB y
    have e : ds.drop i = d :: ds.drop (i + 1) := by
      rw [List.drop_eq_getElem_cons c7]
      rw [List.getElem?_eq_getElem c7] at hd
      cases hd
      rfl
    rw [e] at h'
    refine hg ⟨β, M1, H1⟩ zr.eP zr.ew zr.eK zr.et _ _ _ _ ⟨β, d, bM, M', _, gi.step x2, rd, h', fun Kz M3 jz H3 x3 KA h3 => hb ⟨β, M1, H1⟩ zr.eP zr.ew zr.eK zr.et _ _ _ ⟨β, Kz, M3, _, KA, h3, ?_⟩⟩
    exact ⟨fun mD M4 vQ H4 x4 jC h4 => ⟨mD, M4, jC, h4⟩, fun d4 M4 v4 H4 x4 e4 r4 h4 => r.rt _ _ _ _ (x1.ev.trans ⟨e4.keep, e4.new, x4.mz⟩) (jB.ent.trans e4) r4 h4, fun mD M4 vQ H4 x4 jC h4 => r.nx _ _ _ _ (ev jC) (jB.vP jC) h4, fun mD M4 vQ H4 x4 jC h4 => ⟨mD, M4, jC, h4⟩⟩
  · have e : i = ds.length := by omega
    subst e
    rw [List.drop_length] at h'
    exact .inl ⟨(it β M' H' .refl gi.ent gi.mz _).2 (Nat.le_refl _), r.nx _ _ _ _ (ev gi) (jB.vP gi) h'⟩
noncomputable def KC (Γ : Gz) (p : Mh → bA) : TS := fun D σ H => ∃ aV : Gz, aV.P = Γ.P ∧ aV.w = Γ.w ∧ aV.K = Γ.K ∧ aV.tb = Γ.tb ∧ lS aV (p aV.M0) D σ H
noncomputable def KD (Γ : Gz) (p : cm) : TG := fun x σ H N => ∃ aV : Gz, aV.P = Γ.P ∧ aV.w = Γ.w ∧ aV.K = Γ.K ∧ aV.tb = Γ.tb ∧ lG aV p x σ H N
theorem AO {body : List Stmt} {iter : Expr} {zi : dF} {g : cm} {tb : Mh → bA} {pos : Pos} (hp : PassesOwn (model X.prog X.w) X.A X.env X.xe) (hc : X.calm = true) (hi : QI Γ X tg iter zi)
    (zJ : ∀ (aV : Gz) (M1 : Mh), aV.M0 = M1 → aV.P = Γ.P → aV.w = Γ.w → aV.K = Γ.K → aV.tb = Γ.tb → QG aV X tg g ∧ il aV X body (tb M1))
    (hs : ∀ x, foldedSetIterable iter X.env x = pure x := by intro _; rfl) : QS Γ X (.For tg iter body [] pos) (zForM zi g tb) :=
  (Cq (g := KD Γ g) (tb := KC Γ tb) hp hc hi (fun pins s σ H v u Q I r h => by obtain ⟨aV, e1, e2, e3, e4, h⟩ := h; exact (zJ aV _ rfl e1 e2 e3 e4).1 pins s σ H v u Q I r h) ⟨fun pins s σ H D I h => by obtain ⟨aV, e1, e2, e3, e4, h⟩ := h; exact (zJ aV _ rfl e1 e2 e3 e4).2 pins s σ H D I h⟩ hs).imp
    fun D σ H h => F4 (fun aV e1 e2 e3 e4 D σ H h => ⟨aV, e1, e2, e3, e4, h⟩) (fun aV e1 e2 e3 e4 x σ H N h => ⟨aV, e1, e2, e3, e4, h⟩) h
theorem fG {body : List Stmt} {iter : Expr} {zi : dF} {g : cm} {tb : bA} {pos : Pos} (hp : PassesOwn (model X.prog X.w) X.A X.env X.xe) (hc : X.calm = true) (hi : QI Γ X tg iter zi)
    (zJ : ∀ aV : Gz, aV.P = Γ.P → aV.w = Γ.w → aV.K = Γ.K → aV.tb = Γ.tb → QG aV X tg g ∧ il aV X body tb)
    (hs : ∀ x, foldedSetIterable iter X.env x = pure x := by intro _; rfl) : QS Γ X (.For tg iter body [] pos) (zFor zi g tb) := AO (tb := fun _ => tb) hp hc hi (fun aV M1 _ e1 e2 e3 e4 => zJ aV e1 e2 e3 e4) hs
theorem cD {a : Expr} {p pos : Pos} (hg : Gl X "range") (hm : X.mg "range" = none) (ha : QA Γ X [a] pa) (hs : starEach [a] X.env = [(false, eval a X.env)] := by rfl) : QI Γ X tg (.Call (.Name "range" p) [a] [] pos) (ziRng1 pa) := (uX hg hm ha hs).imp fun σ H R h => DV h
noncomputable def vR (c : cj) (tb : bA) : bA := fun D ρ M => ∃ W : Nat → aA → Mh → Prop, (∃ m, W m ρ M) ∧ ∀ m ρ M, W m ρ M →
  c ρ M fun b M1 => if b = true then tb { D with nx := fun bM M' => ∃ m', m' < m ∧ W m' bM M', ct := fun bM M' => ∃ m', m' < m ∧ W m' bM M', bk := D.nx } ρ M1 else D.nx ρ M1
theorem AQ {c : cj} {tb : bA} {D : Ends} {σ : St} {H : Hp} (h : lS Γ (vR c tb) D σ H) : uU (lT Γ c) (lS Γ tb) D σ H := by
  obtain ⟨β, ρ, M, D', zr, ⟨W, ⟨m0, w0⟩, turn⟩, r⟩ := h
  refine ⟨fun m aJ H' => ∃ bM M', Ev β M H M' H' ∧ Zr Γ β M' bM aJ H' ∧ W m bM M', ⟨m0, ρ, M, .refl zr.mz, zr, w0⟩, ?_⟩
  rintro m aJ H' ⟨bM, M', x', gi, w'⟩
  refine ⟨β, bM, M', _, gi, turn m bM M' w', fun k M1 H1 x1 h1 => ?_⟩
  have vT := x'.trans x1.ev
  cases k with
  | true =>
    dsimp only at h1 ⊢
    rw [if_pos rfl] at h1 ⊢
    refine ⟨fun gb H2 => ∃ m', m' < m ∧ ∃ eQ M2, Ev β M H M2 H2 ∧ Zr Γ β M2 eQ gb H2 ∧ W m' eQ M2, fun gb H2 h2 => h2, β, bM, M1, _, gi.step x1, h1, ?_⟩
    exact ⟨fun mD M4 vQ H4 x4 jC ⟨m', hm, w4⟩ => ⟨m', hm, mD, M4, vT.trans x4, jC, w4⟩, fun d4 M4 v4 H4 x4 e4 r4 h4 => r.rt _ _ _ _ (vT.trans x4) e4 r4 h4, fun mD M4 vQ H4 x4 jC h4 => r.nx _ _ _ _ (vT.trans x4) jC h4, fun mD M4 vQ H4 x4 jC ⟨m', hm, w4⟩ => ⟨m', hm, mD, M4, vT.trans x4, jC, w4⟩⟩
  | false =>
    dsimp only at h1 ⊢
    rw [if_neg Bool.false_ne_true] at h1 ⊢
    exact r.nx _ _ _ _ vT (gi.step x1) h1
theorem yf {body : List Stmt} {c : Expr} {zc : cj} {tb : bA} {pos : Pos} (hp : PassesOwn (model X.prog X.w) X.A X.env X.xe) (hc : QT Γ X c zc) (hb : il Γ X body tb) : QS Γ X (.While c body [] pos) (vR zc tb) := (xi hp hc hb).imp fun D σ H h => AQ h
theorem dm {g : cm} {tb : bA} {D : eR} (J : Nat → aA → Mh → Prop) {ds : List Dv} {ρ : aA} {M : Mh} (h0 : J 0 ρ M)
    (hs : ∀ i d ρ M (N : aA → Mh → Prop), ds[i]? = some d → J i ρ M → (∀ bM M', J (i + 1) bM M' → N bM M') → g d ρ M fun eQ M2 => tb { D with nx := N, ct := N, bk := D.nx } eQ M2)
    (hd : ∀ ρ M, J ds.length ρ M → D.nx ρ M) : zLoop g tb D ds ρ M := by
  have key : ∀ (n i : Nat) ρ M, n = ds.length - i → i ≤ ds.length → J i ρ M → zLoop g tb D (ds.drop i) ρ M := by
    intro n
    induction n with
    | zero =>
      intro i ρ M e hi h
      have : i = ds.length := by omega
      subst this
      rw [List.drop_length]
      exact hd _ _ h
    | succ n ih =>
      intro i ρ M e hi h
      have c7 : i < ds.length := by omega
      rw [List.drop_eq_getElem_cons c7]
      exact hs i _ ρ M _ (List.getElem?_eq_getElem c7) h fun ρ M h => ih (i + 1) ρ M (by omega) c7 h
  exact key _ 0 ρ M rfl (Nat.zero_le _) h0
end
section
variable {X : Cx} {Γ : Gz} {β : Bz}
noncomputable def zBlock (tn : Nat) (idx : List Nat) (ρ : aA) : aA := List.replicate tn none ++ idx.map fun i => (ρ[i]?).join
theorem Zr.block {M : Mh} {ρ : aA} {σ : St} {H : Hp} (z : Zr Γ β M ρ σ H) (tn : Nat) (idx : List Nat) : Zr Γ β M (zBlock tn idx ρ) (cE tn idx σ) H := ⟨z.eP, z.ew, z.eK, z.et, z.sub, z.wf, z.ent, z.mz, by simp [zBlock, cE], fun i d e => by
  unfold zBlock at e
  unfold cE
  rw [List.getElem?_append] at e ⊢
  rw [List.length_replicate] at e ⊢
  split at e
  · rw [List.getElem?_replicate] at e
    split at e <;> cases e
  · rename_i hi
    rw [if_neg hi]
    rw [List.getElem?_map] at e ⊢
    cases q : idx[i - tn]? with
    | none => rw [q] at e; cases e
    | some j =>
      rw [q] at e
      have e2 : ρ[j]? = some (some d) := by
        simp only [Option.map_some, Option.some.injEq] at e
        cases q2 : ρ[j]? with
        | none => rw [q2] at e; cases e
        | some o => rw [q2] at e; simp only [Option.join_some] at e; rw [e]
      obtain ⟨v, hv, r⟩ := z.at' j d e2
      exact ⟨v, by simp [hv], r⟩⟩
theorem Zr.enter {M : Mh} {ρ : aA} {σ : St} {H : Hp} {D : Addr} {o : HO} (z : Zr Γ β M ρ σ H) (hD : H D = none) (ho : lj o = true) : Zr Γ (β.add D) M ρ σ (upd H D o) :=
  ⟨z.eP, z.ew, z.eK, z.et, fun a h => List.mem_cons_of_mem _ (z.sub a h), z.wf, z.ent.over (z.ent.gone hD (by
    cases e : Γ.M0 D with
    | none => rfl
    | some u => have := z.ent.dom D (by rw [e]; rfl); rw [z.mz.free hD] at this; cases this)), z.mz.enter hD ho, z.len, fun i d e => let ⟨v, h, r⟩ := z.at' i d e; ⟨v, h, r.enter hD⟩⟩
theorem Zr.over {M : Mh} {ρ : aA} {σ : St} {H : Hp} {D : Addr} {o : HO} (z : Zr Γ β M ρ σ H) (hD : D ∈ β.hid) (ho : lj o = true) (hM : M D = none) (ht : D ∉ β.tb) (h0 : Γ.H0 D = none) : Zr Γ β M ρ σ (upd H D o) :=
  ⟨z.eP, z.ew, z.eK, z.et, z.sub, z.wf, z.ent.over h0, z.mz.over hD ho hM ht, z.len, fun i d e => let ⟨v, h, r⟩ := z.at' i d e; ⟨v, h, r.over hD⟩⟩
noncomputable abbrev sN (Γ : Gz) (X : Cx) (ifs : List Expr) (t : cj) : Prop := jK X ifs (lT Γ t)
noncomputable def zNoIf : cj := fun _ M Q => Q true M
theorem iW : sN Γ X [] zNoIf := Au.imp fun σ H Q ⟨β, ρ, M, Q', zr, h, q⟩ => q true M H (.refl zr.mz) h
theorem AR {c : Expr} {tc : cj} (h : QT Γ X c tc) : sN Γ X [c] tc := Av h
noncomputable def fc (g : cm) (tt : cj) (te : aE) : List Dv → aA → Mh → (List Dv → Mh → Prop) → Prop
  | [], _, M, Q => Q [] M
  | d :: ds, τ, M, Q => g d τ M fun aF M2 => tt aF M2 fun b M3 => if b = true then te aF M3 fun y M4 => fc g tt te ds aF M4 fun ys M5 => Q (y :: ys) M5 else fc g tt te ds aF M3 Q
structure Acc (Γ : Gz) (β : Bz) (D : Addr) (M1 : Mh) (H1 : Hp) (cy : aA) (M : Mh) (τ : St) (H : Hp) (acc : List V) (bK : List Dv) : Prop where
  ey : Ey M1 H1 M H
  m : M D = none
  zr : Zr Γ (β.add D) M cy τ H
  at' : H D = some (.lst acc)
  rs : aT (β.add D) M H acc bK
  h1 : H1 D = none
  h0 : Γ.H0 D = none
  nt : D ∉ β.tb
theorem Acc.start {D : Addr} {M1 : Mh} {H1 : Hp} {cy : aA} {τ : St} (zr : Zr Γ β M1 cy τ H1) (hD : H1 D = none) : Acc Γ β D M1 H1 cy M1 τ (upd H1 D (.lst [])) [] [] :=
  ⟨Ey.refl.over hD, zr.mz.free hD, zr.enter hD rfl, aP, .nil, hD, zr.ent.gone hD (by
    cases e : Γ.M0 D with
    | none => rfl
    | some u => have := zr.ent.dom D (by rw [e]; rfl); rw [zr.mz.free hD] at this; cases this), zr.mz.Je hD⟩
section
variable {D : Addr} {M1 M M2 : Mh} {H1 H H2 : Hp} {cy DW : aA} {τ aF : St} {acc : List V} {bK : List Dv}
theorem Acc.step (A : Acc Γ β D M1 H1 cy M τ H acc bK) (x : Ex (β.add D) M H M2 H2) (z : Zr Γ (β.add D) M2 DW aF H2) : Acc Γ β D M1 H1 DW M2 aF H2 acc bK :=
  ⟨A.ey.trans x.toEy, x.new D _ A.m A.at', z, x.get A.m A.at' rfl, A.rs.ex x, A.h1, A.h0, A.nt⟩
theorem Acc.snoc (A : Acc Γ β D M1 H1 cy M τ H acc bK) {y : V} {d : Dv} (r : Rz (β.add D) M H y d) : Acc Γ β D M1 H1 cy M τ (upd H D (.lst (acc ++ [y]))) (acc ++ [y]) (bK ++ [d]) := by
  have hD : D ∈ (β.add D).hid := List.mem_cons_self
  exact ⟨A.ey.over A.h1, A.m, A.zr.over hD rfl A.m A.nt A.h0, aP, ⟨by simp [A.rs.len], fun i v d a b => ((A.rs.snoc r).at' i v d a b).over hD⟩, A.h1, A.h0, A.nt⟩
theorem Acc.fz (A : Acc Γ β D M1 H1 cy M τ H acc bK) (m1 : Mz β M1 H1) : Fz β M D := ⟨A.m, (m1.fz A.h1).2⟩
theorem Acc.mz (A : Acc Γ β D M1 H1 cy M τ H acc bK) : Mz β M H := Mz.sub (β := β.add D) (cg := β) rfl rfl rfl rfl (fun a h => List.mem_cons_of_mem _ h) A.zr.mz
theorem Acc.items (A : Acc Γ β D M1 H1 cy M τ H acc bK) : aT β M H acc bK := ⟨A.rs.len, fun i v d a b => Rz.sub (β := β.add D) (cg := β) rfl rfl rfl (fun a h => List.mem_cons_of_mem _ h) (A.rs.at' i v d a b)⟩
theorem Acc.ex (A : Acc Γ β D M1 H1 cy M τ H acc bK) : Ex β M1 H1 M H := ⟨A.ey, A.mz⟩
end
noncomputable def zComp (tn : Nat) (idx : List Nat) (zi : dF) (g : cm) (tt : cj) (te : aE) : aE := fun ρ M Q => zi ρ M fun ds M1 => ds.length < sizeLine ∧ fc g tt te ds (zBlock tn idx ρ) M1 fun ys M2 => Q (.lst ys) M2
noncomputable def zCompP (tn : Nat) (idx : List Nat) (zi : dF) (g : cm) (tt : cj) (te : aE) : aE := fun ρ M Q => zi ρ M fun ds M1 => ds.length < sizeLine ∧ fc g tt te ds (zBlock tn idx ρ) M1 fun ys M2 => ∀ a, M2 a = none → Q (.ptr a) (az M2 a (.lst ys))
noncomputable def zTupG (tn : Nat) (idx : List Nat) (zi : dF) (g : cm) (tt : cj) (te : aE) : aE := fun ρ M Q => zi ρ M fun ds M1 => ds.length < sizeLine ∧ fc g tt te ds (zBlock tn idx ρ) M1 fun ys M2 => Q (.tup ys) M2
variable {zi : dF} {g : cm} {tt : cj} {te : aE} {tn : Nat} {idx : List Nat}
noncomputable def jV (Γ : Gz) (β : Bz) (D : Addr) (M1 : Mh) (H1 : Hp) (g : cm) (tt : cj) (te : aE) (ds : List Dv) (Q' : List Dv → Mh → Prop) (i m : Nat) (τ : St) (H : Hp) : Prop :=
  m = ds.length - i ∧ i ≤ ds.length ∧ ∃ cy M acc bK, Acc Γ β D M1 H1 cy M τ H acc bK ∧ acc.length ≤ i ∧ fc g tt te (ds.drop i) cy M fun ys M2 => Q' (bK ++ ys) M2
theorem oB {D : Addr} {M1 : Mh} {H1 : Hp} {ds : List Dv} {Q' : List Dv → Mh → Prop} {J : It} (it : zG β J ds M1 H1) (hlen : ds.length < sizeLine) {i m : Nat} {τ : St} {H : Hp} (w : jV Γ β D M1 H1 g tt te ds Q' i m τ H)
    {C : V → St → Hp → Prop} (hC : ∀ y aF H4 acc, H4 D = some (.lst acc) → acc.length < sizeLine → (∃ m', m' < m ∧ jV Γ β D M1 H1 g tt te ds Q' (i + 1) m' aF (upd H4 D (.lst (acc ++ [y])))) → C y aF H4) :
    (J.stop i H ∧ ∃ cy M acc bK, Acc Γ β D M1 H1 cy M τ H acc bK ∧ acc.length < sizeLine ∧ Q' bK M) ∨
    (J.go i H ∧ ∀ x H', J.yld i H x H' → lG Γ g x τ H' fun aF H2 => lT Γ tt aF H2 fun b H3 => if b = true then lE Γ te aF H3 fun y H4 => C y aF H4 else ∃ m', m' < m ∧ jV Γ β D M1 H1 g tt te ds Q' (i + 1) m' aF H3) := by
  obtain ⟨rfl, hi, cy, M, acc, bK, A, LU, h⟩ := w
  have q := it (β.add D) M H (.add A.h1) A.ey A.zr.mz i
  by_cases c7 : i < ds.length
  · refine .inr ⟨(q.1 c7).1, fun x H' y => ?_⟩
    obtain ⟨x2, d, hd, rd⟩ := (q.1 c7).2 x H' y
    have e : ds.drop i = d :: ds.drop (i + 1) := by
      rw [List.drop_eq_getElem_cons c7]
      rw [List.getElem?_eq_getElem c7] at hd
      cases hd
      rfl
    rw [e] at h
    have A2 := A.step x2 (A.zr.step x2)
    refine ⟨β.add D, d, cy, M, _, A2.zr, rd, h, fun jf M3 kU H3 x3 z3 h3 => ?_⟩
    have A3 := A2.step x3 z3
    refine ⟨β.add D, jf, M3, _, z3, h3, fun b M4 H4 x4 h4 => ?_⟩
    have A4 := A3.step x4 (z3.step x4)
    cases b with
    | false =>
      dsimp only at h4 ⊢
      rw [if_neg Bool.false_ne_true] at h4 ⊢
      exact ⟨ds.length - (i + 1), by omega, rfl, c7, jf, M4, acc, bK, A4, by omega, h4⟩
    | true =>
      dsimp only at h4 ⊢
      rw [if_pos rfl] at h4 ⊢
      refine ⟨β.add D, jf, M4, _, A4.zr, h4, fun yd M5 yv H5 x5 r5 h5 => ?_⟩
      have A5 := A4.step x5 (A4.zr.step x5)
      refine hC yv kU H5 acc A5.at' (by omega) ⟨ds.length - (i + 1), by omega, rfl, c7, jf, M5, acc ++ [yv], bK ++ [yd], A5.snoc r5, by simp; omega, ?_⟩
      have e2 : (fun ys M2 => Q' (bK ++ [yd] ++ ys) M2) = fun ys M2 => Q' (bK ++ yd :: ys) M2 := by
        funext ys M2
        rw [List.append_assoc]
        rfl
      rw [e2]
      exact h5
  · have e : i = ds.length := by omega
    subst e
    rw [List.drop_length] at h
    refine .inl ⟨q.2 (Nat.le_refl _), cy, M, acc, bK, A, by omega, ?_⟩
    have h' : Q' (bK ++ []) M := h
    rwa [List.append_nil] at h'
theorem mE {D : Addr} {M1 : Mh} {H1 : Hp} {ds : List Dv} {Q' : List Dv → Mh → Prop} {cy : aA} {τ : St} (zr : Zr Γ β M1 cy τ H1) (hD : H1 D = none) (h : fc g tt te ds cy M1 Q') : jV Γ β D M1 H1 g tt te ds Q' 0 ds.length τ (upd H1 D (.lst [])) :=
  ⟨rfl, Nat.zero_le _, cy, M1, [], [], .start zr hD, Nat.le_refl _, h⟩
theorem vU {σ : St} {H : Hp} {Q : VK} (h : lE Γ (zComp tn idx zi g tt te) σ H Q) : pw tn idx (lI Γ zi) (lG Γ g) (lT Γ tt) (lE Γ te) σ H Q := by
  obtain ⟨β, ρ, M, Q', zr, h, q⟩ := h
  refine ⟨β, ρ, M, _, zr, h, fun ds M1 H1 J x1 it ⟨hlen, h1⟩ D hD => ?_⟩
  have jB := zr.step x1
  refine ⟨jV Γ β D M1 H1 g tt te ds fun ys M2 => Q' (.lst ys) M2, ⟨_, mE (jB.block tn idx) hD h1⟩, fun i m τ H' w => ?_⟩
  rcases oB it hlen w (C := fun y aF H4 => ∃ ys m', H4 D = some (.lst ys) ∧ ys.length < sizeLine ∧ m' < m ∧ jV Γ β D M1 H1 g tt te ds (fun ys M2 => Q' (.lst ys) M2) (i + 1) m' aF (upd H4 D (.lst (ys ++ [y])))) (fun y aF H4 acc e hl ⟨m', hm, w'⟩ => ⟨acc, m', e, hl, hm, w'⟩) with ⟨hs, cy, M', acc, bK, A, _, hq⟩ | z
  · exact .inl ⟨hs, q _ _ _ _ (x1.trans A.ex) (mw (A.fz jB.mz) A.at' A.items) hq⟩
  · exact .inr z
theorem AU {σ : St} {H : Hp} {Q : VK} (h : lE Γ (zCompP tn idx zi g tt te) σ H Q) : pw tn idx (lI Γ zi) (lG Γ g) (lT Γ tt) (lE Γ te) σ H Q := by
  obtain ⟨β, ρ, M, Q', zr, h, q⟩ := h
  refine ⟨β, ρ, M, _, zr, h, fun ds M1 H1 J x1 it ⟨hlen, h1⟩ D hD => ?_⟩
  have jB := zr.step x1
  refine ⟨jV Γ β D M1 H1 g tt te ds fun ys M2 => ∀ a, M2 a = none → Q' (.ptr a) (az M2 a (.lst ys)), ⟨_, mE (jB.block tn idx) hD h1⟩, fun i m τ H' w => ?_⟩
  rcases oB it hlen w (C := fun y aF H4 => ∃ ys m', H4 D = some (.lst ys) ∧ ys.length < sizeLine ∧ m' < m ∧ jV Γ β D M1 H1 g tt te ds (fun ys M2 => ∀ a, M2 a = none → Q' (.ptr a) (az M2 a (.lst ys))) (i + 1) m' aF (upd H4 D (.lst (ys ++ [y])))) (fun y aF H4 acc e hl ⟨m', hm, w'⟩ => ⟨acc, m', e, hl, hm, w'⟩) with ⟨hs, cy, M', acc, bK, A, _, hq⟩ | z
  · refine .inl ⟨hs, ?_⟩
    have KG : D ∉ β.hid := (A.fz jB.mz).2
    have hM : M' D = none := A.m
    have mz : Mz β (az M' D (.lst bK)) H' := by
      have rz : ∀ {v : V} {d : Dv}, Rz (β.add D) M' H' v d → Rz β (az M' D (.lst bK)) H' v d := fun r => by
        have ne : ∀ a, Fz (β.add D) M' a → Fz β (az M' D (.lst bK)) a := fun a f => ⟨by rw [aq (fun z => f.2 (by rw [z]; exact List.mem_cons_self))]; exact f.1, fun z => f.2 (List.mem_cons_of_mem _ z)⟩
        induction r with
        | int i => exact .int i
        | bl b => exact .bl b
        | aC => exact .aC
        | str z => exact .str z
        | tup m e hl h ih => exact .tup (ne _ m) e hl ih
        | lst m e hl h ih => exact .lst (ne _ m) e hl ih
        | dk m e hk hl h ih => exact .dk (ne _ m) e hk hl ih
        | dt m e hk hl h ih => exact .dt (ne _ m) e hk hl ih
        | cG m e m2 e2 hl h ih => exact .cG (ne _ m) e (ne _ m2) e2 hl ih
        | set m e => exact .set (ne _ m) e
        | ptr m => exact .ptr (by unfold az; split; rfl; exact m)
        | exc m e => exact .exc (ne _ m) e
        | bp m e => exact .bp (ne _ m) e
        | cz m e => exact .cz (ne _ m) e
        | cA e => exact .cA e
        | raw v => exact .raw v
      refine ⟨fun a o e => ?_, A.zr.mz.tabs, fun a ha => A.zr.mz.hids a (List.mem_cons_of_mem _ ha), fun a o e z => ?_, A.zr.mz.lams⟩
      by_cases ha : a = D
      · subst ha
        rw [updM_same] at e
        cases e
        exact ⟨acc, A.at', A.rs.len, fun i v d a b => rz (A.rs.at' i v d a b)⟩
      · rw [aq ha] at e
        have z := A.zr.mz.obj a o e
        cases o with
        | lst ds => obtain ⟨vs, z, l, r⟩ := z; exact ⟨vs, z, l, fun i v d a b => rz (r i v d a b)⟩
        | dk ks ds => obtain ⟨vs, z, hk, l, r⟩ := z; exact ⟨vs, z, hk, l, fun i v d a b => rz (r i v d a b)⟩
        | dt ks ds => obtain ⟨vs, z, hk, l, r⟩ := z; exact ⟨vs, z, hk, l, fun i v d a b => rz (r i v d a b)⟩
        | cQ => exact z
      · by_cases ha : a = D
        · subst ha; exact KG z
        · rw [aq ha] at e
          exact A.zr.mz.apart a o e (List.mem_cons_of_mem _ z)
    have ey : Ey M1 H1 (az M' D (.lst bK)) H' := ⟨A.ey.keep, fun a h => by unfold az; split; rfl; exact A.ey.dom a h, fun a o m e => by rw [aq (bh e A.h1)]; exact A.ey.new a o m e⟩
    exact q _ _ _ _ (x1.trans ⟨ey, mz⟩) (.ptr (by rw [updM_same]; rfl)) (hq D hM)
  · exact .inr z
theorem Jf {P : Addr} {zi : dF} {R : It → Hp → Prop} {σ : St} {H : Hp} {ρ : aA} {M : Mh} {R' : List Dv → Mh → Prop} (hP : P ∈ Γ.tb) (zr : Zr Γ β M ρ σ H) (h : zi ρ M R') (q : ∀ ds M' H' J, Ex β M H M' H' → zG β J ds M' H' → R' ds M' → R J H') : Dg P (lI Γ zi) R σ H := by
  refine ⟨β, ρ, M, _, zr, h, fun ds M1 H1 J x1 it h1 => ?_⟩
  have zo : P ∈ β.tb := by rw [zr.et]; exact hP
  refine ⟨x1.mz.tabs P zo, fun ps t => ?_⟩
  have x2 := Ex.grow x1.mz zo t
  refine q ds M1 _ J (x1.trans x2) (fun cg M' H' bx ey mz => it cg M' H' ⟨bx.P, bx.w, bx.K, bx.tb, bx.old, fun a ha => ?_⟩ (x2.toEy.trans ey) mz) h1
  rcases bx.new a ha with z | z
  · exact .inl z
  · right
    cases e : H1 a with
    | none => rfl
    | some o => obtain ⟨u, hu⟩ := ya (p := P) (o := .b6 ps) ⟨o, e⟩; rw [z] at hu; cases hu
noncomputable def ip (g : cm) (tt : cj) (te : aE) : List Dv → aA → Mh → (Bool → Mh → Prop) → Prop
  | [], _, M, Q => Q true M
  | d :: ds, τ, M, Q => g d τ M fun aF M2 => tt aF M2 fun b M3 => if b = true then te aF M3 (zBool fun c M4 => if c = false then Q false M4 else ip g tt te ds aF M4 Q) else ip g tt te ds aF M3 Q
noncomputable def zAll (tn : Nat) (idx : List Nat) (zi : dF) (g : cm) (tt : cj) (te : aE) : aE := fun ρ M Q => zi ρ M fun ds M1 => ip g tt te ds (zBlock tn idx ρ) M1 fun b M2 => Q (.bl b) M2
theorem F5 {P : Addr} (hP : P ∈ Γ.tb) {σ : St} {H : Hp} {Q : VK} (h : lE Γ (zAll tn idx zi g tt te) σ H Q) : Dh P tn idx (lI Γ zi) (lG Γ g) (lT Γ tt) (lE Γ te) σ H Q := by
  obtain ⟨β, ρ, M, Q', zr, h, q⟩ := h
  refine Jf hP zr h fun ds M1 H1 J x1 it h1 => ?_
  have jB := zr.step x1
  refine ⟨fun i m τ H' => m = ds.length - i ∧ i ≤ ds.length ∧ ∃ cy M', Ex β M1 H1 M' H' ∧ Zr Γ β M' cy τ H' ∧ ip g tt te (ds.drop i) cy M' fun b M2 => Q' (.bl b) M2, ⟨_, rfl, Nat.zero_le _, _, M1, .refl x1.mz, jB.block tn idx, h1⟩, ?_⟩
  rintro i m τ H' ⟨rfl, hi, cy, M', x', gi, h'⟩
  have qq := it β M' H' .refl x'.toEy x'.mz i
  by_cases c7 : i < ds.length
  · refine .inr ⟨(qq.1 c7).1, fun x mB y => ?_⟩
    obtain ⟨x2, d, hd, rd⟩ := (qq.1 c7).2 x mB y
    have e : ds.drop i = d :: ds.drop (i + 1) := by
      rw [List.drop_eq_getElem_cons c7]
      rw [List.getElem?_eq_getElem c7] at hd
      cases hd
      rfl
    rw [e] at h'
    refine ⟨β, d, cy, M', _, gi.step x2, rd, h', fun jf M3 kU H3 x3 z3 h3 => ⟨β, jf, M3, _, z3, h3, fun b M4 H4 x4 h4 => ?_⟩⟩
    have DX := x'.trans (x2.trans (x3.trans x4))
    cases b with
    | false =>
      dsimp only at h4 ⊢
      rw [if_neg Bool.false_ne_true] at h4 ⊢
      exact ⟨ds.length - (i + 1), by omega, rfl, c7, jf, M4, DX, z3.step x4, h4⟩
    | true =>
      dsimp only at h4 ⊢
      rw [if_pos rfl] at h4 ⊢
      refine ⟨β, jf, M4, _, z3.step x4, h4, fun yd M5 yv H5 x5 r5 h5 => ?_⟩
      obtain ⟨k, rfl, h6⟩ := gW h5
      refine ⟨k, cW r5, ?_⟩
      cases k with
      | false =>
        rw [if_pos rfl] at h6 ⊢
        exact q _ _ _ _ (x1.trans (DX.trans x5)) (.bl _) h6
      | true =>
        rw [if_neg (by decide)] at h6 ⊢
        exact ⟨ds.length - (i + 1), by omega, rfl, c7, jf, M5, DX.trans x5, (z3.step x4).step x5, h6⟩
  · have e : i = ds.length := by omega
    subst e
    rw [List.drop_length] at h'
    exact .inl ⟨qq.2 (Nat.le_refl _), q _ _ _ _ (x1.trans x') (.bl _) h'⟩
end
section
variable {X : Cx} {Γ : Gz} {β : Bz} {K : PySem.W.Frag}
noncomputable def zII (f : Int → Int → Dv) : cC := fun d e M Q => match d, e with | .int i, .int j => Q (f i j) M | _, _ => False
noncomputable def zIC (C : Int → Int → Prop) (f : Int → Int → Dv) : cC := fun d e M Q => match d, e with | .int i, .int j => C i j ∧ Q (f i j) M | _, _ => False
theorem jW {g : Int → Int → V} {f : Int → Int → Dv} (h : ∀ β M H i j, Rz β M H (g i j) (f i j)) : qt Γ (nX g) (zII f) := fun β x y d e M H Q Q' _ _ _ m rx ry z q => by
  unfold zII at z
  split at z
  · exact ⟨_, _, aO rx, aO ry, q _ _ _ _ (.refl m) (h ..) z⟩
  · exact z.elim
theorem mF {C : Int → Int → Prop} {g : Int → Int → V} {f : Int → Int → Dv} (h : ∀ β M H i j, Rz β M H (g i j) (f i j)) : qt Γ (rI C g) (zIC C f) := fun β x y d e M H Q Q' _ _ _ m rx ry z q => by
  unfold zIC at z
  split at z
  · exact ⟨_, _, aO rx, aO ry, z.1, q _ _ _ _ (.refl m) (h ..) z.2⟩
  · exact z.elim
theorem eT : eH Γ X (binaryOp .Add) (zII fun i j => .int (i + j)) := ⟨_, Cu, jW fun _ _ _ _ _ => .int _⟩
theorem jg : eH Γ X (binaryOp .Sub) (zII fun i j => .int (i - j)) := ⟨_, Cv, jW fun _ _ _ _ _ => .int _⟩
theorem jh : eH Γ X (binaryOp .Mult) (zIC tu fun i j => .int (i * j)) := ⟨_, Cw, mF fun _ _ _ _ _ => .int _⟩
theorem qz : eH Γ X (binaryOp .FloorDiv) (zIC xm fun i j => .int (i / j)) := ⟨_, Af, mF fun _ _ _ _ _ => .int _⟩
theorem iq : eH Γ X (binaryOp .Mod) (zIC (fun _ j => 0 < j) fun i j => .int (i % j)) := ⟨_, Cy, mF fun _ _ _ _ _ => .int _⟩
theorem t4 : eH Γ X (binaryOp .Pow) (zIC Ct fun i j => .int (i ^ j.toNat)) := ⟨_, Cz, mF fun _ _ _ _ _ => .int _⟩
theorem iC : eH Γ X (compareOp .Lt) (zII fun i j => .bl (decide (i < j))) := ⟨_, FJ, jW fun _ _ _ _ _ => .bl _⟩
theorem yg : eH Γ X (compareOp .LtE) (zII fun i j => .bl (decide (i ≤ j))) := ⟨_, FK, jW fun _ _ _ _ _ => .bl _⟩
theorem DY : eH Γ X (compareOp .Gt) (zII fun i j => .bl (decide (j < i))) := ⟨_, FL, jW fun _ _ _ _ _ => .bl _⟩
noncomputable def scalZ (d e : Dv) : Option Bool := match d with
  | .int i => (match e with | .int j => some (decide (i = j)) | .aC => some false | .str _ => some false | _ => none)
  | .bl i => (match e with | .bl j => some (decide (i = j)) | .aC => some false | .str _ => some false | _ => none)
  | .str i => (match e with | .str j => some (decide (i = j)) | .aC => some false | .int _ => some false | .bl _ => some false | _ => none)
  | .aC => (match e with | .aC => some true | .int _ => some false | .bl _ => some false | .str _ => some false | _ => none)
  | _ => none
noncomputable def zEq : cC := fun d e M Q => match scalZ d e with | some b => Q (.bl b) M | none => False
noncomputable def zNe : cC := fun d e M Q => match scalZ d e with | some b => Q (.bl (!b)) M | none => False
theorem qA {M : Mh} {H : Hp} {x y : V} {d e : Dv} {b : Bool} (rx : Rz β M H x d) (ry : Rz β M H y e) (h : scalZ d e = some b) : xn x y = true ∧ decide (x = y) = b := by
  unfold scalZ at h
  split at h
  · rw [aO rx]
    split at h <;> cases h
    · rw [aO ry]; exact ⟨rfl, by simp⟩
    · rw [gd ry]; exact ⟨rfl, by simp⟩
    · rw [dU ry]; exact ⟨rfl, by simp⟩
  · rw [cW rx]
    split at h <;> cases h
    · rw [cW ry]; exact ⟨rfl, by simp⟩
    · rw [gd ry]; exact ⟨rfl, by simp⟩
    · rw [dU ry]; exact ⟨rfl, by simp⟩
  · rw [dU rx]
    split at h <;> cases h
    · rw [dU ry]; exact ⟨rfl, by simp⟩
    · rw [gd ry]; exact ⟨rfl, by simp⟩
    · rw [aO ry]; exact ⟨rfl, by simp⟩
    · rw [cW ry]; exact ⟨rfl, by simp⟩
  · rw [gd rx]
    split at h <;> cases h
    · rw [gd ry]; exact ⟨rfl, by simp⟩
    · rw [aO ry]; exact ⟨rfl, by simp⟩
    · rw [cW ry]; exact ⟨rfl, by simp⟩
    · rw [dU ry]; exact ⟨rfl, by simp⟩
  · cases h
theorem lr : eH Γ X (compareOp .Eq) zEq := ⟨_, FH, fun β x y d e M H Q Q' _ _ _ m rx ry z q => by
  unfold zEq at z
  split at z
  · rename_i b hb
    obtain ⟨h1, h2⟩ := qA rx ry hb
    exact ⟨h1, by rw [h2]; exact q _ _ _ _ (.refl m) (.bl _) z⟩
  · exact z.elim⟩
theorem Jg : eH Γ X (compareOp .NotEq) zNe := ⟨_, FI, fun β x y d e M H Q Q' _ _ _ m rx ry z q => by
  unfold zNe at z
  split at z
  · rename_i b hb
    obtain ⟨h1, h2⟩ := qA rx ry hb
    exact ⟨h1, by rw [h2]; exact q _ _ _ _ (.refl m) (.bl _) z⟩
  · exact z.elim⟩
noncomputable def zIs (neg : Bool) : cC := fun d e M Q => match d, e with | .bl a, .bl b => Q (.bl (if neg then !(a == b) else a == b)) M | _, _ => False
noncomputable def isNonD : Dv → Option Bool
  | .aC => some true
  | .raw _ => none
  | _ => some false
noncomputable def zIsN (neg : Bool) : cC := fun d e M Q => match e, isNonD d with | .aC, some b => Q (.bl (if neg then !b else b)) M | _, _ => False
noncomputable def zSS (C : Str → Str → Prop) (f : Str → Str → Dv) : cC := fun d e M Q => match d, e with | .str i, .str j => C i j ∧ Q (f i j) M | _, _ => False
noncomputable def now (M : Mh) : Dv → Dv
  | .ptr a => match M a with | some (.lst ds) => .lst ds | _ => .ptr a
  | d => d
noncomputable def itemsM (M : Mh) : Dv → Option (List Dv)
  | .tup ds => some ds
  | .lst ds => some ds
  | .ptr a => match M a with | some (.lst ds) => some ds | _ => none
  | _ => none
theorem gX {M : Mh} {H : Hp} {x : V} {d : Dv} {ds : List Dv} (m : Mz β M H) (r : Rz β M H x d) (h : itemsM M d = some ds) : ∃ a vs, x = .ref a ∧ (H a = some (.lst vs) ∨ H a = some (.tup vs)) ∧ aT β M H vs ds := by
  cases d with
  | tup es => cases h; obtain ⟨a, vs, e, _, h, rs⟩ := cR r; exact ⟨a, vs, e, .inr h, rs⟩
  | lst es => cases h; obtain ⟨a, vs, e, _, h, rs⟩ := fo r; exact ⟨a, vs, e, .inl h, rs⟩
  | ptr a =>
    obtain ⟨rfl, hs⟩ := cS r
    simp only [itemsM] at h
    split at h
    · rename_i es q
      cases h
      obtain ⟨vs, hv, rs⟩ := m.obj a _ q
      exact ⟨a, vs, rfl, .inl hv, rs⟩
    · cases h
  | _ => cases h
theorem AV {M : Mh} {H : Hp} {vs : List V} {ds : List Dv} (rs : aT β M H vs ds) {i : Int} {d : Dv} (h : cB ds i = some d) : ∃ v, cB vs i = some v ∧ Rz β M H v d := by
  unfold cB at h ⊢
  rw [rs.len]
  cases e : fA ds.length i with
  | none => rw [e] at h; cases h
  | some j =>
    rw [e] at h
    obtain ⟨v, hv, r⟩ := rs.get (i := j) (d := d) h
    exact ⟨v, hv, r⟩
noncomputable def DZ (Γ : Gz) (X : Cx) (z : cC) : Prop := ∃ r, jH X r ∧ qt Γ r z
noncomputable def zIx : cC := fun d e M Q => match e with
  | .int i => (match d with
    | .str z => z.length ≤ sizeLine ∧ (match cB z.cps.toList i with | some c => Q (.str ⟨#[c]⟩) M | none => False)
    | _ => match itemsM M d with | some ds => (match cB ds i with | some r => Q r M | none => False) | none => False)
  | _ => False
theorem bR (hK : X.K = K) : DZ Γ X zIx := ⟨_, sF hK, fun β x y d e M H Q Q' _ _ _ m rx ry z q => by
  unfold zIx at z
  split at z
  · rename_i i
    have hy := aO ry
    split at z
    · rename_i s
      obtain ⟨hz, z⟩ := z
      split at z
      · rename_i c hc
        exact .inr (.inr ⟨s, i, c, dU rx, hy, hz, hc, q _ _ _ _ (.refl m) (.str _) z⟩)
      · exact z.elim
    · split at z
      · rename_i ds ie
        obtain ⟨a, vs, rfl, ha, rs⟩ := gX m rx ie
        split at z
        · rename_i r hr
          obtain ⟨v, hv, rv⟩ := AV rs hr
          have z' := q _ _ _ _ (.refl m) rv z
          rcases ha with ha | ha
          · exact .inl ⟨a, vs, i, v, rfl, hy, bQ.of ha, hv, z'⟩
          · exact .inr (.inl ⟨a, vs, i, v, rfl, hy, bW.of ha, hv, z'⟩)
        · exact z.elim
      · exact z.elim
  · exact z.elim⟩
theorem bc {a b : Expr} {pa pb : aE} {z : cC} {pos : Pos} (hr : DZ Γ X z) (ha : QE Γ X a pa) (hb : QE Γ X b pb) (hs : sC b) : QE Γ X (.Subscript a b pos) (zOp z pa pb) := by
  obtain ⟨r, h1, h2⟩ := hr
  exact (FQ h1 ha hb hs).imp fun σ H Q h => tY h2 h
noncomputable def cutD (xs : List Dv) (lo hi : Option Int) : List Dv := (xs.drop (HT.aR xs.length 0 lo)).take (HT.aR xs.length xs.length hi - HT.aR xs.length 0 lo)
noncomputable abbrev vV := aA → Mh → (Option Int → Mh → Prop) → Prop
noncomputable def lO (Γ : Gz) (p : vV) : TO := fun σ H Q => ∃ (β : Bz) (ρ : aA) (M : Mh) (Q' : Option Int → Mh → Prop), Zr Γ β M ρ σ H ∧ p ρ M Q' ∧ ∀ o M' H', Ex β M H M' H' → Q' o M' → Q o H'
noncomputable def zoNone : vV := fun _ M Q => Q none M
noncomputable def zoSome (p : aE) : vV := fun ρ M Q => p ρ M fun d M1 => match d with | .int i => Q (some i) M1 | _ => False
theorem PO.imp {e : Option Expr} {t t' : TO} (h : PO X e t) (i : ∀ σ H Q, t' σ H Q → t σ H Q) : PO X e t' := fun pins s σ H Q I q => h pins s σ H Q I (i _ _ _ q)
theorem fN : PO X none (lO Γ zoNone) := PO.imp An fun σ H Q ⟨β, ρ, M, Q', zr, h, q⟩ => q _ _ _ (.refl zr.mz) h
theorem fO {e : Expr} {p : aE} (h : QE Γ X e p) : PO X (some e) (lO Γ (zoSome p)) := PO.imp (Ao h) fun σ H Q ⟨β, ρ, M, Q', zr, h, q⟩ => ⟨β, ρ, M, _, zr, h, fun d M1 v H1 x1 r1 h1 => by
  revert h1
  split
  · intro h1
    exact ⟨_, aO r1, q _ _ _ x1 h1⟩
  · exact fun z => z.elim⟩
noncomputable abbrev sO := Dv → Option Int → Option Int → Mh → ZK → Prop
noncomputable def Hw (Γ : Gz) (X : Cx) (z : sO) : Prop := ∃ r, vi X r ∧ ∀ (β : Bz) x d lo hi M H Q Q', β.P = Γ.P → β.w = Γ.w → β.K = Γ.K → Mz β M H → Rz β M H x d → z d lo hi M Q' → (∀ d' M' v H', Ex β M H M' H' → Rz β M' H' v d' → Q' d' M' → Q v H') → r x lo hi H Q
noncomputable def zSl (z : sO) (p : aE) (l h : vV) : aE := fun ρ M Q => p ρ M fun d M1 => l ρ M1 fun lo M2 => h ρ M2 fun hi M3 => z d lo hi M3 Q
theorem fe {z : sO} {e : Expr} {p : aE} {lo hi : Option Expr} {l h : vV} {p2 pos : Pos} (hr : Hw Γ X z) (he : QE Γ X e p) (hl : PO X lo (lO Γ l)) (hu : PO X hi (lO Γ h)) : QE Γ X (.Subscript e (.Slice lo hi none p2) pos) (zSl z p l h) := by
  obtain ⟨r, h1, h2⟩ := hr
  exact (xB h1 he hl hu).imp fun σ H Q ⟨β, ρ, M, Q', zr, h, q⟩ => ⟨β, ρ, M, _, zr, h, fun d M1 v H1 x1 r1 h1 => ⟨β, ρ, M1, _, zr.step x1, h1, fun o M2 H2 x2 h3 => ⟨β, ρ, M2, _, (zr.step x1).step x2, h3, fun o2 M3 H3 x3 h4 =>
    h2 β v d o o2 M3 H3 _ _ zr.eP zr.ew zr.eK x3.mz ((r1.ex x2).ex x3) h4 fun d' M' v' H' x4 r4 q4 => q _ _ _ _ (x1.trans (x2.trans (x3.trans x4))) r4 q4⟩⟩⟩
noncomputable def zSlT : sO := fun d lo hi M Q => match d with | .tup ds => Q (.tup (cutD ds lo hi)) M | _ => False
theorem sP {M : Mh} {H : Hp} {vs : List V} {ds : List Dv} (rs : aT β M H vs ds) (lo hi : Option Int) : aT β M H (gp vs lo hi) (cutD ds lo hi) := by
  unfold gp cutD
  rw [rs.len]
  exact (rs.drop _).take _
theorem ji (hK : X.K = K) : Hw Γ X zSlT := ⟨_, AI hK, fun β x d lo hi M H Q Q' _ _ _ m rx z q => by
  unfold zSlT at z
  split at z
  · obtain ⟨a, vs, rfl, f, ha, rs⟩ := cR rx
    refine ⟨a, vs, rfl, bW.of ha, fun w => ?_, fun _ p hp => ?_⟩
    · have e := tT w
      have r2 := sP rs lo hi
      rw [e] at r2
      exact q _ _ _ _ (.refl m) (fD f ha r2) z
    · have x2 := Ex.lay m hp (.tup (gp vs lo hi))
      exact q _ _ _ _ x2 (fD (m.fz hp) aP ((sP rs lo hi).ex x2)) z
  · exact z.elim⟩
noncomputable def zSlS : sO := fun d lo hi M Q => match d with | .str s => s.length ≤ sizeLine ∧ Q (.str (Txt.slice s lo hi)) M | _ => False
noncomputable def zSlL : sO := fun d lo hi M Q => match d with | .tup _ => False | _ => match itemsM M d with | some ds => Q (.lst (cutD ds lo hi)) M | none => False
noncomputable def zCatT : cC := fun d e M Q => match d, e with | .tup xs, .tup ys => xs.length + ys.length ≤ sizeLine ∧ Q (.tup (xs ++ ys)) M | _, _ => False
theorem gY (hK : X.K = K) : eH Γ X (binaryOp .Add) zCatT := ⟨_, AH hK, fun β x y d e M H Q Q' _ _ _ m rx ry z q => by
  unfold zCatT at z
  split at z
  · obtain ⟨a, vs, rfl, f, ha, rs⟩ := cR rx
    obtain ⟨b, us, rfl, f2, hb, c9⟩ := cR ry
    refine ⟨a, b, vs, us, rfl, rfl, bW.of ha, bW.of hb, by rw [rs.len, c9.len]; exact z.1, fun e => ?_, fun _ e => ?_, fun _ _ p hp => ?_⟩
    · subst e
      have r3 := rs.append c9
      exact q _ _ _ _ (.refl m) (fD f2 hb r3) z.2
    · subst e
      have r3 := rs.append c9
      rw [List.append_nil] at r3
      exact q _ _ _ _ (.refl m) (fD f ha r3) z.2
    · have x2 := Ex.lay m hp (.tup (vs ++ us))
      exact q _ _ _ _ x2 (fD (m.fz hp) aP ((rs.append c9).ex x2)) z.2
  · exact z.elim⟩
end
section
variable {X : Cx} {Γ : Gz} {β : Bz} {K : PySem.W.Frag}
section
variable {x : Str} {p pos : Pos} {e : Expr} {es : List Expr} {za : dJ} {id T : String} {z : kT}
theorem aS (hc : eS Γ X (.builtin id) z) (hg : Gl X x) (hm : X.mg x = none) (hv : bootBuiltins x = some (.builtin id)) (ha : QA Γ X (e :: es) za) (hn : x ≠ "__name__" := by decide) (fy : (x == ("__debug__" : Str)) = false := by decide)
    (he : starEach (e :: es) X.env = (false, eval e X.env) :: starEach es X.env := by rfl) (fm : (backTo pos (starEach es X.env)).any (·.1) = false := by rfl) : QE Γ X (.Call (.Name x p) (e :: es) [] pos) (zCB z za) := by
  obtain ⟨r, h1, h2⟩ := hc
  exact (xx h1 hg hm hv ha hn fy he fm).imp fun σ H Q h => DT h2 h
theorem fq (hc : eS Γ X (.type T) z) (hg : Gl X x) (hm : X.mg x = none) (hv : bootBuiltins x = some (.type T)) (ha : QA Γ X (e :: es) za) (hn : x ≠ "__name__" := by decide) (fy : (x == ("__debug__" : Str)) = false := by decide)
    (he : starEach (e :: es) X.env = (false, eval e X.env) :: starEach es X.env := by rfl) (fm : (backTo pos (starEach es X.env)).any (·.1) = false := by rfl) : QE Γ X (.Call (.Name x p) (e :: es) [] pos) (zCB z za) := by
  obtain ⟨r, h1, h2⟩ := hc
  exact (vg h1 hg hm hv ha hn fy he fm).imp fun σ H Q h => DT h2 h
end
noncomputable def z1 (f : Dv → Mh → ZK → Prop) : kT := fun ds M Q => match ds with | [d] => f d M Q | _ => False
noncomputable def zLenD (d : Dv) (M : Mh) (Q : ZK) : Prop := match d with
  | .str s => s.length ≤ sizeLine ∧ Q (.int s.length) M
  | .bp ns => Q (.int ns.length) M
  | _ => match itemsM M d with | some ds => Q (.int ds.length) M | none => False
theorem eU (hK : X.K = K) (hG : K = Γ.K) : eS Γ X (.builtin "len") (z1 zLenD) := ⟨_, vz hK, fun β xs ds M H Q Q' _ _ eK m rs z q => by
  rw [← hG] at eK
  unfold z1 at z
  split at z
  · rename_i d
    obtain ⟨x, rfl, r⟩ := eh rs
    unfold zLenD at z
    split at z
    · rename_i s
      have e := dU r
      subst e
      exact ⟨_, _, rfl, ⟨z.1, rfl⟩, q _ _ _ _ (.refl m) (.int _) z.2⟩
    · rename_i ns
      obtain ⟨a, rfl, h⟩ := oA r
      rw [eK] at h
      exact ⟨_, ns.length, rfl, .inl ⟨_, h, by simp⟩, q _ _ _ _ (.refl m) (.int _) z⟩
    · split at z
      · rename_i ds ie
        obtain ⟨a, vs, rfl, ha, c9⟩ := gX m r ie
        have q' := q _ _ (.int ds.length) _ (.refl m) (.int _) z
        rcases ha with ha | ha
        · exact ⟨_, ds.length, rfl, .inl ⟨vs, bQ.of ha, c9.len.symm⟩, q'⟩
        · exact ⟨_, ds.length, rfl, .inr ⟨vs, bW.of ha, c9.len.symm⟩, q'⟩
      · exact z.elim
  · exact z.elim⟩
noncomputable def z2I (f : Int → Int → Int) : kT := fun ds M Q => match ds with | [.int i, .int j] => Q (.int (f i j)) M | _ => False
theorem D0 (hc : X.calm = true) : eS Γ X (.builtin "max") (z2I fun i j => if j > i then j else i) := ⟨_, u9 hc, fun β xs ds M H Q Q' _ _ _ m rs z q => by
  unfold z2I at z
  split at z
  · obtain ⟨x, y, rfl, r, r'⟩ := gG rs
    rw [aO r, aO r']
    exact ⟨_, _, rfl, q _ _ _ _ (.refl m) (.int _) z⟩
  · exact z.elim⟩
theorem qB (hc : X.calm = true) : eS Γ X (.builtin "min") (z2I fun i j => if j < i then j else i) := ⟨_, va hc, fun β xs ds M H Q Q' _ _ _ m rs z q => by
  unfold z2I at z
  split at z
  · obtain ⟨x, y, rfl, r, r'⟩ := gG rs
    rw [aO r, aO r']
    exact ⟨_, _, rfl, q _ _ _ _ (.refl m) (.int _) z⟩
  · exact z.elim⟩
noncomputable def zAbs (d : Dv) (M : Mh) (Q : ZK) : Prop := match d with | .int i => Q (.int (if i < 0 then -i else i)) M | _ => False
theorem F6 : eS Γ X (.builtin "abs") (z1 zAbs) := ⟨_, xr, fun β xs ds M H Q Q' _ _ _ m rs z q => by
  unfold z1 at z
  split at z
  · obtain ⟨x, rfl, r⟩ := eh rs
    unfold zAbs at z
    split at z
    · rw [aO r]
      exact ⟨_, rfl, q _ _ _ _ (.refl m) (.int _) z⟩
    · exact z.elim
  · exact z.elim⟩
noncomputable def zDivmod : kT := fun ds M Q => match ds with | [.int i, .int j] => xm i j ∧ Q (.tup [.int (i / j), .int (i % j)]) M | _ => False
noncomputable def zInt (d : Dv) (M : Mh) (Q : ZK) : Prop := match d with | .int i => Q (.int i) M | .bl k => Q (.int (if k then 1 else 0)) M | _ => False
noncomputable def zList (d : Dv) (M : Mh) (Q : ZK) : Prop := match itemsM M d with | some ds => Q (.lst ds) M | none => False
noncomputable def zListP (d : Dv) (M : Mh) (Q : ZK) : Prop := match itemsM M d with | some ds => ∀ a, M a = none → Q (.ptr a) (az M a (.lst ds)) | none => False
theorem vW (hK : X.K = K) : eS Γ X (.type "list") (z1 zList) := ⟨_, oK hK, fun β xs ds M H Q Q' _ _ _ m rs z q => by
  unfold z1 at z
  split at z
  · obtain ⟨x, rfl, r⟩ := eh rs
    unfold zList at z
    split at z
    · rename_i ds ie
      obtain ⟨a, vs, rfl, ha, c9⟩ := gX m r ie
      refine ⟨a, vs, rfl, ha.imp bQ.of bW.of, fun l hl => ?_⟩
      have x2 := Ex.lay m hl (.lst vs)
      exact q _ _ _ _ x2 (mw (m.fz hl) aP (c9.ex x2)) z
    · exact z.elim
  · exact z.elim⟩
noncomputable def zTuple (d : Dv) (M : Mh) (Q : ZK) : Prop := match itemsM M d with | some ds => Q (.tup ds) M | none => False
theorem nj (hK : X.K = K) : eS Γ X (.type "tuple") (z1 zTuple) := ⟨_, m8 hK, fun β xs ds M H Q Q' _ _ _ m rs z q => by
  unfold z1 at z
  split at z
  · rename_i d
    obtain ⟨x, rfl, r⟩ := eh rs
    unfold zTuple at z
    split at z
    · rename_i ds ie
      obtain ⟨a, vs, rfl, ha, c9⟩ := gX m r ie
      refine ⟨a, vs, rfl, ?_⟩
      rcases ha with ha | ha
      · refine .inl ⟨bQ.of ha, fun l hl => ?_⟩
        have x2 := Ex.lay m hl (.tup vs)
        exact q _ _ _ _ x2 (fD (m.fz hl) aP (c9.ex x2)) z
      · refine .inr ⟨bW.of ha, ?_⟩
        have f : Fz β M a := by
          cases d with
          | tup es => obtain ⟨b, us, e, f, _⟩ := cR r; cases e; exact f
          | lst es => obtain ⟨b, us, e, f, _⟩ := fo r; cases e; exact f
          | ptr b =>
            obtain ⟨e, hs⟩ := cS r
            cases e
            cases q2 : M a with
            | none => rw [q2] at hs; cases hs
            | some o => have := m.mx ha rfl; rw [q2] at this; cases this
          | _ => cases ie
        exact q _ _ _ _ (.refl m) (fD f ha c9) z
    · exact z.elim
  · exact z.elim⟩
noncomputable def dq : List Dv → Option (List Int)
  | [] => some []
  | .int i :: ds => (dq ds).map (i :: ·)
  | _ :: _ => none
theorem qC : ∀ {ds : List Dv} {ns : List Int}, dq ds = some ns → ds = ns.map Dv.int
  | [], ns, h => by simp only [dq, Option.some.injEq] at h; subst h; rfl
  | d :: ds, ns, h => by
    cases d with
    | int i =>
      simp only [dq, Option.map_eq_some_iff] at h
      obtain ⟨ms, h, rfl⟩ := h
      rw [qC h]
      rfl
    | _ => simp [dq] at h
theorem vX : ∀ ns : List Int, dq (ns.map Dv.int) = some ns
  | [] => rfl
  | n :: ns => by simp [dq, vX ns]
theorem lu {M : Mh} {H : Hp} : ∀ {vs : List V} {ns : List Int}, aT β M H vs (ns.map Dv.int) → vs = ns.map V.int
  | [], [], _ => rfl
  | [], _ :: _, r => absurd r.len (by simp)
  | _ :: _, [], r => absurd r.len (by simp)
  | v :: vs, n :: ns, r => by
    rw [List.map_cons] at r
    rw [List.map_cons, aO r.head, lu r.tail]
theorem qD {M : Mh} {H : Hp} : ∀ {ns : List Int}, aT β M H (ns.map V.int) (ns.map Dv.int)
  | [] => .nil
  | n :: ns => .cons (.int _) qD
noncomputable def intsM (M : Mh) (d : Dv) : Option (List Int) := match d with | .set ns => some ns | _ => (itemsM M d).bind dq
noncomputable def zSorted (d : Dv) (M : Mh) (Q : ZK) : Prop := match intsM M d with | some ns => ns.length < 64 ∧ Q (.lst ((sortI ns).map .int)) M | none => False
theorem vY {M : Mh} {H : Hp} {x : V} {d : Dv} {ns : List Int} (m : Mz β M H) (r : Rz β M H x d) (h : (itemsM M d).bind dq = some ns) : ∃ a, x = .ref a ∧ (H a = some (.lst (ns.map V.int)) ∨ H a = some (.tup (ns.map V.int))) := by
  cases e : itemsM M d with
  | none => rw [e] at h; cases h
  | some ds =>
    rw [e] at h
    obtain ⟨a, vs, rfl, ha, rs⟩ := gX m r e
    have e2 := qC (ns := ns) h
    subst e2
    have := lu rs
    subst this
    exact ⟨a, rfl, ha⟩
noncomputable def zSet (d : Dv) (M : Mh) (Q : ZK) : Prop := match (itemsM M d).bind dq with | some ns => ns.length + 1 < scanBound ∧ Q (.set (dS ns)) M | none => False
theorem F7 (hP : X.prog = Γ.P) (hw : X.w = Γ.w) (hK : X.K = K) (hc : X.calm = true) : eS Γ X (.type "set") (z1 zSet) := by
  refine ⟨qh Γ.P Γ.w K, by rw [← hP, ← hw]; exact tQ hK hc, fun β xs ds M H Q Q' eP ew _ m rs z q => ?_⟩
  unfold z1 at z
  split at z
  · rename_i d
    obtain ⟨x, rfl, r⟩ := eh rs
    unfold zSet at z
    split at z
    · rename_i ns lW
      obtain ⟨a, rfl, ha⟩ := vY m r lW
      refine ⟨a, ns, rfl, ha.imp bQ.of bW.of, z.1, fun l hl => ?_⟩
      have x2 := Ex.lay m hl (lb Γ.P Γ.w l (dS ns))
      exact q _ _ _ _ x2 (.set (m.fz hl) (by rw [eP, ew]; exact aP)) z.2
    · exact z.elim
  · exact z.elim
noncomputable def zLenS (d : Dv) (M : Mh) (Q : ZK) : Prop := match d with | .set ns => Q (.int ns.length) M | _ => False
theorem D1 (hP : X.prog = Γ.P) (hw : X.w = Γ.w) : eS Γ X (.builtin "len") (z1 zLenS) := by
  refine ⟨zB Γ.P Γ.w, by rw [← hP, ← hw]; exact vG, fun β xs ds M H Q Q' eP ew _ m rs z q => ?_⟩
  unfold z1 at z
  split at z
  · obtain ⟨x, rfl, r⟩ := eh rs
    unfold zLenS at z
    split at z
    · obtain ⟨a, rfl, f, h⟩ := vL r
      rw [eP, ew] at h
      exact ⟨a, _, rfl, h, q _ _ _ _ (.refl m) (.int _) z⟩
    · exact z.elim
  · exact z.elim
noncomputable def isD (T : String) (M : Mh) (d : Dv) : Option Bool := match d with
  | .int _ => some (T == "int") | .bl _ => some (T == "int" || T == "bool") | .aC => some false | .str _ => some (T == "str") | .tup _ => some (T == "tuple") | .lst _ => some (T == "list") | .ptr a => (match M a with | some (.lst _) => some (T == "list") | some .cQ => some (T == "list") | some _ => some false | none => none) | _ => none
noncomputable def nq : List String := ["int", "bool", "str", "tuple", "list"]
noncomputable def zIsInst : kT := fun ds M Q => match ds with | [d, .raw (.ty T)] => T ∈ nq ∧ (match isD T M d with | some b => Q (.bl b) M | none => False) | _ => False
theorem D2 {K : PySem.W.Frag} {M : Mh} {H : Hp} {x : V} {d : Dv} {T : String} {b : Bool} (m : Mz β M H) (hT : T ∈ nq) (r : Rz β M H x d) (h : isD T M d = some b) : ∃ t, e7 K H x t ∧ PySem.W.kitOne K t (.type T) = some b := by
  have kW : T = "int" ∨ T = "bool" ∨ T = "str" ∨ T = "tuple" ∨ T = "list" := by simpa [nq] using hT
  cases r with
  | int i => cases h; exact ⟨_, .int i, by rcases kW with rfl | rfl | rfl | rfl | rfl <;> rfl⟩
  | bl i => cases h; exact ⟨_, .bl i, by rcases kW with rfl | rfl | rfl | rfl | rfl <;> rfl⟩
  | aC => cases h; exact ⟨_, .aC, by rcases kW with rfl | rfl | rfl | rfl | rfl <;> rfl⟩
  | str i => cases h; exact ⟨_, .str i, by rcases kW with rfl | rfl | rfl | rfl | rfl <;> rfl⟩
  | tup f e hl q => cases h; exact ⟨_, .tup e, by rcases kW with rfl | rfl | rfl | rfl | rfl <;> rfl⟩
  | lst f e hl q => cases h; exact ⟨_, .lst e, by rcases kW with rfl | rfl | rfl | rfl | rfl <;> rfl⟩
  | ptr hs =>
    rename_i a
    cases q2 : M a with
    | none => rw [q2] at hs; cases hs
    | some o =>
      simp only [isD, q2] at h
      have q := m.obj a o q2
      cases o with
      | lst ds => obtain ⟨vs, e, _⟩ := q; cases h; exact ⟨_, .lst e, by rcases kW with rfl | rfl | rfl | rfl | rfl <;> rfl⟩
      | cQ => obtain ⟨_, _, e, _⟩ := q; cases h; exact ⟨_, .lst e, by rcases kW with rfl | rfl | rfl | rfl | rfl <;> rfl⟩
      | dk ks ds => obtain ⟨vs, e, _⟩ := q; cases h; exact ⟨_, .dK e, by rcases kW with rfl | rfl | rfl | rfl | rfl <;> rfl⟩
      | dt ks ds => obtain ⟨vs, e, _⟩ := q; cases h; exact ⟨_, .dT e, by rcases kW with rfl | rfl | rfl | rfl | rfl <;> rfl⟩
  | set f e => cases h
  | exc f e => cases h
  | bp f e => cases h
  | cz f e => cases h
  | cA e => cases h
  | raw v => cases h
  | dk f e _ _ _ => cases h
  | dt f e _ _ _ => cases h
  | cG _ _ _ _ _ _ => cases h
theorem jj (hK : X.K = K) : eS Γ X (.builtin "isinstance") zIsInst := ⟨_, qa hK, fun β xs ds M H Q Q' _ _ _ m rs z q => by
  unfold zIsInst at z
  split at z
  · obtain ⟨x, y, rfl, r, r'⟩ := gG rs
    rw [gf r']
    obtain ⟨hT, z⟩ := z
    split at z
    · rename_i b hb
      obtain ⟨t, ht, hk⟩ := D2 (K := K) m hT r hb
      exact ⟨_, _, t, b, rfl, ht, hk, q _ _ _ _ (.refl m) (.bl _) z⟩
    · exact z.elim
  · exact z.elim⟩
noncomputable abbrev jD := Dv → List Dv → Mh → ZK → Prop
noncomputable def D3 (Γ : Gz) (X : Cx) (T id : String) (K : PySem.W.Frag) (z : jD) : Prop := ∃ r, CL X id r ∧ ∀ (β : Bz) x xs d ds M H Q Q', β.P = Γ.P → β.w = Γ.w → β.K = Γ.K → Mz β M H → Rz β M H x d → aT β M H xs ds → z d ds M Q' → (∀ d' M' v H', Ex β M H M' H' → Rz β M' H' v d' → Q' d' M' → Q v H') → r x xs H Q
noncomputable def tyZ (T : String) (M : Mh) : Dv → Prop
  | .ptr a => match M a with | some (.lst _) => T = "list" | some .cQ => T = "list" | some (.dk _ _) => T = "dict" | some (.dt _ _) => T = "dict" | none => False
  | .lst _ => T = "list"
  | .tup _ => T = "tuple"
  | .str _ => T = "str"
  | _ => False
theorem D4 {M : Mh} {H : Hp} {x : V} {d : Dv} {T : String} (m : Mz β M H) (r : Rz β M H x d) (h : tyZ T M d) : CV K T x H := by
  cases r with
  | str => exact h
  | lst f e _ _ => exact .inl ⟨h, _, bQ.of e⟩
  | tup f e _ _ => exact .inr (.inl ⟨h, .inr ⟨_, e⟩⟩)
  | ptr hs =>
    rename_i a
    cases q2 : M a with
    | none => rw [q2] at hs; cases hs
    | some o =>
      simp only [tyZ, q2] at h
      have q := m.obj a o q2
      cases o with
      | lst ds => obtain ⟨vs, e, _⟩ := q; exact .inl ⟨h, _, bQ.of e⟩
      | cQ => obtain ⟨_, _, e, _⟩ := q; exact .inl ⟨h, _, bQ.of e⟩
      | dk ks ds => obtain ⟨vs, e, _⟩ := q; exact .inr (.inr (.inl ⟨h, .inl ⟨_, e⟩⟩))
      | dt ks ds => obtain ⟨vs, e, _⟩ := q; exact .inr (.inr (.inl ⟨h, .inr ⟨_, e⟩⟩))
  | _ => exact h.elim
noncomputable def zBM (T : String) (z : jD) (po : aE) (pa : dJ) : aE := fun ρ M Q => po ρ M fun d M1 => tyZ T M1 d ∧ pa ρ M1 fun ds M2 => z d ds M2 Q
section
variable {o e : Expr} {es : List Expr} {po : aE} {pa : dJ} {name : Str} {apos bg : Pos} {T id : String} {z : jD}
theorem pz (h : X.K = K) (pat : PlainAttrs T) (slot : Slot T name id) (vk : typeOf (.builtin id) = pure (.type "method_descriptor")) (hm : D3 Γ X T id K z) (ho : QE Γ X o po) (ha : QA Γ X (e :: es) pa) (lU : attributeBase o name X.env (eval o X.env) = eval o X.env := by rfl)
    (pP : ((backTo bg (starEach (e :: es) X.env)).all (fun x => !x.1) && (backToKw bg (keywordEach [] X.env)).all (fun x => x.1.isSome)
      && decide ((e :: es).length + ([] : List Keyword).length + (if ([] : List Keyword).isEmpty then 0 else 1) < 30)) = true := by rfl)
    (hline : (apos.endLine == bg.line) = true := by rfl) (hs : starEach (e :: es) X.env = (false, eval e X.env) :: starEach es X.env := by rfl) (jI : (backTo bg (starEach es X.env)).any (·.1) = false := by rfl) :
    QE Γ X (.Call (.Attribute o name apos) (e :: es) [] bg) (zBM T z po pa) := by
  obtain ⟨r, h1, h2⟩ := hm
  exact (Dr h pat slot vk h1 ho ha lU pP hline hs jI).imp fun σ H Q ⟨β, ρ, M, Q', zr, h, q⟩ => ⟨β, ρ, M, _, zr, h, fun d M1 v H1 x1 r1 ⟨ht, h1⟩ => ⟨D4 x1.mz r1 ht, β, ρ, M1, _, zr.step x1, h1, fun ds M2 vs H2 x2 r2 h3 =>
    h2 β v vs d ds M2 H2 _ _ zr.eP zr.ew zr.eK x2.mz (r1.ex x2) r2 h3 fun d' M' v' H' x3 r3 q3 => q _ _ _ _ (x1.trans (x2.trans x3)) r3 q3⟩⟩
end
noncomputable def zAppend : jD := fun d ds M Q => match d, ds with | .ptr a, [y] => (match M a with | some (.lst xs) => xs.length < sizeLine ∧ Q .aC (az M a (.lst (xs ++ [y]))) | _ => False) | _, _ => False
theorem lx : D3 Γ X "list" "list.append" K zAppend := ⟨_, oh, fun β x xs d ds M H Q Q' _ _ _ m r rs z q => by
  unfold zAppend at z
  split at z
  · rename_i a y
    split at z
    · rename_i es he
      obtain ⟨e, hs⟩ := cS r
      obtain ⟨v, e2, rv⟩ := eh rs
      subst e e2
      obtain ⟨vs, hv, c9⟩ := m.obj a _ he
      refine ⟨a, vs, v, rfl, rfl, hv, by rw [c9.len]; exact z.1, ?_⟩
      exact q _ _ _ _ (Ex.own m (.inl hs) (c9.snoc rv)) .aC z.2
    · exact z.elim
  · exact z.elim⟩
noncomputable def zExtend : jD := fun d ds M Q => match d, ds with | .ptr a, [y] => (match M a, itemsM M y with | some (.lst xs), some ys => (∀ t, y ≠ .tup t) ∧ xs.length + ys.length ≤ sizeLine ∧ Q .aC (az M a (.lst (xs ++ ys))) | _, _ => False) | _, _ => False
noncomputable def zPop : jD := fun d ds M Q => match d, ds with | .ptr a, [] => (match M a with | some (.lst xs) => (match xs[xs.length - 1]? with | some y => Q y (az M a (.lst xs.dropLast)) | none => False) | _ => False) | _, _ => False
noncomputable def zPopAt : jD := fun d ds M Q => match d, ds with | .ptr a, [.int i] => (match M a with | some (.lst xs) => -(2 ^ 63) ≤ i ∧ i < 2 ^ 63 ∧ (match seqIndex? i xs.length with | some k => (match xs[k]? with | some y => Q y (az M a (.lst (xs.eraseIdx k))) | none => False) | none => False) | _ => False) | _, _ => False
theorem aT.eraseIdx {M : Mh} {H : Hp} {vs : List V} {ds : List Dv} (h : aT β M H vs ds) (k : Nat) : aT β M H (vs.eraseIdx k) (ds.eraseIdx k) := by
  rw [List.eraseIdx_eq_take_drop_succ, List.eraseIdx_eq_take_drop_succ]
  exact (h.take _).append (h.drop _)
theorem AW : D3 Γ X "list" "list.pop" K zPopAt := ⟨_, xD, fun β x xs d ds M H Q Q' _ _ _ m r rs z q => by
  unfold zPopAt at z
  split at z
  · rename_i a i
    split at z
    · rename_i es he
      obtain ⟨b1, b2, z⟩ := z
      split at z
      · rename_i k hk
        split at z
        · rename_i y hy
          obtain ⟨e, hs⟩ := cS r
          obtain ⟨v0, e2, KH⟩ := eh rs
          subst e e2
          rw [aO KH]
          obtain ⟨vs, hv, c9⟩ := m.obj a _ he
          obtain ⟨v, KI, rv⟩ := c9.get hy
          refine ⟨a, vs, i, k, v, rfl, rfl, hv, b1, b2, by rw [c9.len]; exact hk, KI, ?_⟩
          have x2 := Ex.own m (.inl hs) (c9.eraseIdx k)
          exact q _ _ _ _ x2 (rv.ex x2) z
        · exact z.elim
      · exact z.elim
    · exact z.elim
  · exact z.elim⟩
noncomputable def zIndexS : jD := fun d ds M Q => match d, ds with | .str a, [.str b] => (match Builtin.Str.occurrences a b 0 a.length 1 with | i :: _ => Q (.int (i : Nat)) M | [] => False) | _, _ => False
noncomputable def zSetI : Dv → Dv → Dv → Mh → (Mh → Prop) → Prop := fun o i v M N => match o, i with | .ptr a, .int k => (match M a with | some (.lst xs) => (match fA xs.length k with | some j => N (az M a (.lst (xs.set j v))) | none => False) | _ => False) | _, _ => False
noncomputable def zgSub (po pi : aE) : cm := fun d ρ M N => po ρ M fun o M1 => pi ρ M1 fun i M2 => zSetI o i d M2 fun M3 => N ρ M3
theorem jX {o i : Expr} {po pi : aE} {pos : Pos} (ho : QE Γ X o po) (hi : QE Γ X i pi)
    (ha : ∀ v, assign (.Subscript o i pos) X.env v = (do
      let ov ← holding [v] (eval o X.env)
      let iv ← holding [v, ov] (eval i X.env)
      standAt pos
      holding [v, ov, iv] (setItem ov iv v)
      release [v, ov, iv] []) := by intro _; rfl) : QG Γ X (.Subscript o i pos) (zgSub po pi) :=
  (Cd ho hi set_list ha).imp fun v σ H N ⟨β, d, ρ, M, N', zr, r, h, q⟩ => ⟨β, ρ, M, _, zr, h, fun od M1 ov H1 x1 r1 h1 => ⟨β, ρ, M1, _, zr.step x1, h1, fun Mg M2 iv H2 x2 r2 h2 => by
    unfold zSetI at h2
    split at h2
    · rename_i a k
      split at h2
      · rename_i es he
        split at h2
        · rename_i j hj
          obtain ⟨e, hs⟩ := cS (r1.ex x2)
          subst e
          rw [aO r2]
          obtain ⟨vs, hv, c9⟩ := x2.mz.obj a _ he
          have x3 := Ex.own x2.mz (.inl hs) (c9.set j ((r.ex x1).ex x2))
          exact ⟨a, vs, k, j, rfl, rfl, hv, by rw [c9.len]; exact hj, q _ _ _ _ (x1.trans (x2.trans x3)) (((zr.step x1).step x2).step x3) h2⟩
        · exact h2.elim
      · exact h2.elim
    · exact h2.elim⟩⟩
end
end L2
namespace L2
open PySem PySem.Spec PySem.W PyProof.Rows
noncomputable abbrev ZX := Addr → Mh → Prop
noncomputable abbrev dM := List Dv → Mh → ZK → ZX → Prop
noncomputable def aB (P : Program) (w : World) (K : PySem.W.Frag) (tb : eG) (S : dM) : Sp := fun vs H Q E => ∃ (β : Bz) (ds : List Dv) (M : Mh) (Q' : ZK) (E' : ZX), β.P = P ∧ β.w = w ∧ β.K = K ∧ β.tb = tb ∧ Mz β M H ∧ aT β M H vs ds ∧ S ds M Q' E' ∧
  (∀ d M' v H', Ex β M H M' H' → Rz β M' H' v d → Q' d M' → Q v H') ∧ ∀ C M' H', Ex β M H M' H' → E' C M' → E (.ref C) none H'
theorem Rz.kn {β : Bz} {M0 M : Mh} {H : Hp} (dom : ∀ a, (M0 a).isSome = true → (M a).isSome = true) {v : V} {d : Dv} (h : Rz β M H v d) : Pin M0 d → Rz β M0 H v d := by
  have ne : ∀ a, Fz β M a → Fz β M0 a := fun a m => ⟨(by
    cases e : M0 a with
    | none => rfl
    | some o => have := dom a (by rw [e]; rfl); rw [m.1] at this; cases this), m.2⟩
  induction h with
  | int i => exact fun _ => .int i
  | bl b => exact fun _ => .bl b
  | aC => exact fun _ => .aC
  | str z => exact fun _ => .str z
  | tup m e hl h ih =>
    intro p
    cases p with
    | tup p => exact .tup (ne _ m) e hl fun i v d a b => ih i v d a b (p d (List.mem_of_getElem? b))
  | lst m e hl h ih =>
    intro p
    cases p with
    | lst p => exact .lst (ne _ m) e hl fun i v d a b => ih i v d a b (p d (List.mem_of_getElem? b))
  | set m e => exact fun _ => .set (ne _ m) e
  | ptr m => intro p; cases p with | ptr p => exact .ptr p
  | exc m e => exact fun _ => .exc (ne _ m) e
  | bp m e => exact fun _ => .bp (ne _ m) e
  | cz m e => exact fun _ => .cz (ne _ m) e
  | cA e => exact fun _ => .cA e
  | dk m e hk hl h ih =>
    intro p
    cases p with
    | dk p => exact .dk (ne _ m) e hk hl fun i v d a b => ih i v d a b (p d (List.mem_of_getElem? b))
  | dt m e hk hl h ih =>
    intro p
    cases p with
    | dt p => exact .dt (ne _ m) e hk hl fun i v d a b => ih i v d a b (p d (List.mem_of_getElem? b))
  | cG m e m2 e2 hl h ih =>
    intro p
    cases p with
    | cG p => exact .cG (ne _ m) e (ne _ m2) e2 hl fun i v d a b => ih i v d a b (p d (List.mem_of_getElem? b))
  | raw v => exact fun _ => .raw v
inductive jE (M0 M : Mh) : Dv → Dv → Prop where
  | pin {d : Dv} (h : Pin M0 d) : jE M0 M d d
  | ptr {a : Addr} {ds fL : List Dv} (h0 : M0 a = none) (h : M a = some (.lst ds)) (hl : ds.length = fL.length) (r : ∀ (i : Nat) (d d' : Dv), ds[i]? = some d → fL[i]? = some d' → jE M0 M d d') : jE M0 M (.ptr a) (.lst fL)
  | tup {ds fL : List Dv} (hl : ds.length = fL.length) (r : ∀ (i : Nat) (d d' : Dv), ds[i]? = some d → fL[i]? = some d' → jE M0 M d d') : jE M0 M (.tup ds) (.tup fL)
  | dk {a : Addr} {ks : List Key} {ds fL : List Dv} (h0 : M0 a = none) (h : M a = some (.dk ks ds)) (hl : ds.length = fL.length) (r : ∀ (i : Nat) (d d' : Dv), ds[i]? = some d → fL[i]? = some d' → jE M0 M d d') : jE M0 M (.ptr a) (.dk ks fL)
  | dt {a : Addr} {ks : List (List Key)} {ds fL : List Dv} (h0 : M0 a = none) (h : M a = some (.dt ks ds)) (hl : ds.length = fL.length) (r : ∀ (i : Nat) (d d' : Dv), ds[i]? = some d → fL[i]? = some d' → jE M0 M d d') : jE M0 M (.ptr a) (.dt ks fL)
theorem jE.rz {β : Bz} {M0 M : Mh} {H : Hp} (mz : Mz β M H) (dom : ∀ a, (M0 a).isSome = true → (M a).isSome = true) {d d' : Dv} (h : jE M0 M d d') : ∀ {v : V}, Rz β M H v d → Rz β M0 H v d' := by
  induction h with
  | pin h => exact fun r => r.kn dom h
  | ptr h0 h hl r ih =>
    intro v r
    obtain ⟨rfl, _⟩ := cS r
    obtain ⟨vs, hv, rs⟩ := mz.obj _ _ h
    refine .lst ⟨h0, mz.apart _ _ h⟩ hv (rs.len.trans hl) fun i v d a b => ?_
    obtain ⟨d0, q, rd⟩ := rs.get' a
    exact ih i d0 d q b rd
  | dk h0 h hl r ih =>
    intro v r
    obtain ⟨rfl, _⟩ := cS r
    obtain ⟨vs, hv, hk, rs⟩ := mz.obj _ _ h
    refine .dk ⟨h0, mz.apart _ _ h⟩ (.inl hv) hk (rs.len.trans hl) fun i v d a b => ?_
    obtain ⟨d0, q, rd⟩ := rs.get' a
    exact ih i d0 d q b rd
  | dt h0 h hl r ih =>
    intro v r
    obtain ⟨rfl, _⟩ := cS r
    obtain ⟨vs, hv, hk, rs⟩ := mz.obj _ _ h
    refine .dt ⟨h0, mz.apart _ _ h⟩ (.inl hv) hk (rs.len.trans hl) fun i v d a b => ?_
    obtain ⟨d0, q, rd⟩ := rs.get' a
    exact ih i d0 d q b rd
  | tup hl r ih =>
    intro v r
    obtain ⟨a, vs, rfl, f, hv, rs⟩ := cR r
    refine .tup ⟨?_, f.2⟩ hv (rs.len.trans hl) fun i v d a b => ?_
    · cases e : M0 a with
      | none => rfl
      | some o => have := dom a (by rw [e]; rfl); rw [f.1] at this; cases this
    · obtain ⟨d0, q, rd⟩ := rs.get' a
      exact ih i d0 d q b rd
noncomputable def jY (M0 : Mh) (Q : ZK) : ZK := fun d M => Q d M ∨ ((∀ a o, M0 a = some o → M a = some o) ∧ ∃ d', jE M0 M d d' ∧ Q d' M0)
theorem sQ {β : Bz} {M0 M : Mh} {H0 H : Hp} {Q' : ZK} {Q : VK} (m0 : Mz β M0 H0) (q : ∀ d M' v H', Ex β M0 H0 M' H' → Rz β M' H' v d → Q' d M' → Q v H') {d : Dv} {v : V} (x : Ex β M0 H0 M H) (r : Rz β M H v d) (h : jY M0 Q' d M) : Q v H := by
  rcases h with h | ⟨same, d', rv, h⟩
  · exact q _ _ _ _ x r h
  · refine q d' M0 v H ⟨⟨x.keep, fun _ h => h, fun _ _ h _ => h⟩, fun a o e => ?_, x.mz.tabs, x.mz.hids, m0.apart, x.mz.lams⟩ (rv.rz x.mz x.dom r) h
    have z := x.mz.obj a o (same a o e)
    have z0 := m0.obj a o e
    cases o with
    | lst ds =>
      obtain ⟨vs, z, rs⟩ := z
      obtain ⟨Hx, _, vZ⟩ := z0
      refine ⟨vs, z, rs.len, fun i v d a b => (rs.at' i v d a b).kn x.dom ?_⟩
      obtain ⟨v0, _, r0⟩ := vZ.get b
      exact r0.pin
    | dk ks ds =>
      obtain ⟨vs, z, hk, rs⟩ := z
      obtain ⟨Hx, _, _, vZ⟩ := z0
      refine ⟨vs, z, hk, rs.len, fun i v d a b => (rs.at' i v d a b).kn x.dom ?_⟩
      obtain ⟨v0, _, r0⟩ := vZ.get b
      exact r0.pin
    | dt ks ds =>
      obtain ⟨vs, z, hk, rs⟩ := z
      obtain ⟨Hx, _, _, vZ⟩ := z0
      refine ⟨vs, z, hk, rs.len, fun i v d a b => (rs.at' i v d a b).kn x.dom ?_⟩
      obtain ⟨v0, _, r0⟩ := vZ.get b
      exact r0.pin
    | cQ => exact z
noncomputable def zstart (N : List Str) (ds : List Dv) : aA := ds.map some ++ List.replicate (N.length - ds.length) none
theorem qE {Γ : Gz} {N : List Str} {vs : List V} {ds : List Dv} (m : Mz Γ.toBz Γ.M0 Γ.H0) (rs : aT Γ.toBz Γ.M0 Γ.H0 vs ds) : Zr Γ Γ.toBz Γ.M0 (zstart N ds) (start N vs) Γ.H0 := ⟨rfl, rfl, rfl, rfl, fun _ h => h, m.wf, .refl, m, by simp [zstart, start, rs.len], fun i d e => by
  unfold zstart at e
  unfold start
  rw [List.getElem?_append] at e ⊢
  rw [List.length_map] at e ⊢
  rw [rs.len]
  split at e
  · rename_i hi
    rw [if_pos hi]
    rw [List.getElem?_map, Option.map_eq_some_iff] at e
    obtain ⟨d2, e, e2⟩ := e
    cases e2
    obtain ⟨v, hv, r⟩ := rs.get e
    exact ⟨v, by rw [List.getElem?_map, hv]; rfl, r⟩
  · rw [List.getElem?_replicate] at e
    split at e <;> cases e⟩
noncomputable def zEndsOf (M0 : Mh) (Q : ZK) : eR := { nx := fun _ M => jY M0 Q .aC M, rt := jY M0 Q }
noncomputable def XR (Γ : Gz) (E' : ZX) (E : XK) : Prop := ∀ C M' H', Ex Γ.toBz Γ.M0 Γ.H0 M' H' → E' C M' → E (.ref C) none H'
section
variable {P : Program} {w : World} {K : PySem.W.Frag} {mg : Str → Option Value} {base : Heap} {tb : eG} {x : Str} {st : Stmt} {f : Addr} {fd : FuncData} {N ps : List Str} {k : Nat} {S : dM}
theorem sR (len : ∀ ds M Q E, S ds M Q E → ds.length = ps.length) : ∀ vs H Q E, aB P w K tb S vs H Q E → vs.length = ps.length := fun vs H Q E hS => by
  obtain ⟨β, ds, M, Q', E', _, _, _, _, m, rs, s, _⟩ := hS
  exact rs.len.trans (len _ _ _ _ s)
theorem gZ (D : Df K mg x st ps f fd) (sc : aG N ps (ak st)) (len : ∀ ds M Q E, S ds M Q E → ds.length = ps.length)
    (body : ∀ (A : Around) (outer : List Env) (s : Shared) (E : XK) (Γ : Gz) (ds : List Dv) (Q' : ZK) (E' : ZX), P = Γ.P → w = Γ.w → K = Γ.K → tb = Γ.tb → b7 k (A.deeper (envOfC x (ak st) s.heap.objs.size f fd.code)) → S ds Γ.M0 Q' E' →
      ∃ p, il Γ (e8 b9 P w K mg base N x (ak st) f fd.code A outer s Γ.H0 E).uQ (bB st) p ∧ p (zEndsOf Γ.M0 Q') (zstart N ds) Γ.M0) : FnOk P w K mg base b9 (k + 1) f fd ps (aB P w K tb S) := by
  refine D.fn.Ka sc (sR len) fun A outer s H vs Q E hr h => ?_
  obtain ⟨β, ds, M, Q', E', eP, ew, eK, et, m, rs, hS, q, _⟩ := h
  obtain ⟨p, hp, hq⟩ := body A outer s E ⟨β, M, H⟩ ds Q' E' eP.symm ew.symm eK.symm et.symm hr hS
  refine ⟨_, hp, β, zstart N ds, M, zEndsOf M Q', qE (Γ := ⟨β, M, H⟩) m rs, hq, ?_⟩
  have fin : ∀ d M' v H', Ex β M H M' H' → Rz β M' H' v d → jY M Q' d M' → Q v H' := fun d M' v H' x r h => sQ m q x r h
  exact ⟨fun bM M' aJ H' x zr h => fin _ _ _ _ ⟨zr.ent, x.mz⟩ .aC h, fun d M' v H' x e r h => fin _ _ _ _ ⟨e, x.mz⟩ r h, fun _ _ _ _ _ _ h => h, fun _ _ _ _ _ _ h => h⟩
end
section
variable {P : Program} {w : World} {K : PySem.W.Frag} {mg : Str → Option Value} {base : Heap} {tb : eG} {x : Str} {st : Stmt} {f : Addr} {fd : FuncData} {N ps : List Str} {k : Nat} {S : dM}
theorem bZ (D : Df K mg x st ps f fd) (sc : aG N ps (ak st)) (len : ∀ ds M Q E, S ds M Q E → ds.length = ps.length)
    (body : ∀ (A : Around) (outer : List Env) (s : Shared) (E : XK) (Γ : Gz) (ds : List Dv) (Q' : ZK) (E' : ZX), P = Γ.P → w = Γ.w → K = Γ.K → tb = Γ.tb → XR Γ E' E → b7 k (A.deeper (envOfC x (ak st) s.heap.objs.size f fd.code)) → S ds Γ.M0 Q' E' →
      ∃ p, il Γ (e8 (aK P w) P w K mg base N x (ak st) f fd.code A outer s Γ.H0 E) (bB st) p ∧ p (zEndsOf Γ.M0 Q') (zstart N ds) Γ.M0) : FnOk P w K mg base (aK P w) (k + 1) f fd ps (aB P w K tb S) := by
  refine D.fn.ou sc (sR len) fun A outer s H vs Q E hr h => ?_
  obtain ⟨β, ds, M, Q', E', eP, ew, eK, et, m, rs, hS, q, qx⟩ := h
  obtain ⟨p, hp, hq⟩ := body A outer s E ⟨β, M, H⟩ ds Q' E' eP.symm ew.symm eK.symm et.symm qx hr hS
  refine ⟨_, hp, β, zstart N ds, M, zEndsOf M Q', qE (Γ := ⟨β, M, H⟩) m rs, hq, ?_⟩
  have fin : ∀ d M' v H', Ex β M H M' H' → Rz β M' H' v d → jY M Q' d M' → Q v H' := fun d M' v H' x r h => sQ m q x r h
  exact ⟨fun bM M' aJ H' x zr h => fin _ _ _ _ ⟨zr.ent, x.mz⟩ .aC h, fun d M' v H' x e r h => fin _ _ _ _ ⟨e, x.mz⟩ r h, fun _ _ _ _ _ _ h => h, fun _ _ _ _ _ _ h => h⟩
end
section
variable {X : Cx} {Γ : Gz} {β : Bz} {K : PySem.W.Frag}
noncomputable def zCall (S : dM) (E' : ZX) (za : dJ) : aE := fun ρ M Q => za ρ M fun ds M1 => S ds M1 Q E'
theorem XR.none : XR Γ (fun _ _ => False) (fun _ _ _ => False) := fun _ _ _ _ h => h
theorem qF {M M1 M2 : Mh} {H H1 H2 : Hp} (ent : Ey M H M1 H1) (sub : ∀ a, a ∈ Γ.hid → a ∈ β.hid) (eP : β.P = Γ.P) (ew : β.w = Γ.w) (eK : β.K = Γ.K) (et : β.tb = Γ.tb) (x : Ex β M1 H1 M2 H2) : Ex Γ.toBz M H M2 H2 := ⟨ent.trans x.toEy, x.mz.sub eP.symm ew.symm eK.symm et.symm sub⟩
section
variable {CX : fk} {k : Nat} {f : Addr} {fd : FuncData} {ps : List Str} {S : dM} {E : XK} {E' : ZX} {x : Str} {p pos : Pos} {e : Expr} {es : List Expr} {za : dJ} {P : Program} {w : World} {tb : eG}
theorem D5 (hP : P = Γ.P) (hw : w = Γ.w) (hK : K = Γ.K) (ht : tb = Γ.tb) (hE : XR Γ E' E) {σ : St} {H : Hp} {Q : VK} (h : lE Γ (zCall S E' za) σ H Q) : zh (aB P w K tb S) [] E (lA Γ za) σ H Q := by
  subst hP hw hK ht
  obtain ⟨β, ρ, M, Q', zr, h, q⟩ := h
  refine ⟨β, ρ, M, _, zr, h, fun ds M1 vs H1 x1 r1 h1 => ?_⟩
  show aB Γ.P Γ.w Γ.K Γ.tb S (vs ++ []) H1 Q E
  rw [List.append_nil]
  exact ⟨β, ds, M1, Q', E', zr.eP, zr.ew, zr.eK, zr.et, x1.mz, r1, h1, fun d M2 v H2 x2 r2 h2 => q _ _ _ _ (x1.trans x2) r2 h2, fun C M2 H2 x2 h2 => hE C M2 H2 (qF zr.ent zr.sub zr.eP zr.ew zr.eK zr.et (x1.trans x2)) h2⟩
theorem ax (F : FnOk X.prog X.w X.K X.mg X.base CX k f fd ps (aB P w K tb S)) (hr : b7 k X.A) (hg : Gl X x) (hm : X.mg x = some (.ref f)) (hk : PySem.W.keepIn X.K (.ref f) = true) (hb : Binds X.K fd ps []) (hx : Passes CX X E) (hP : P = Γ.P) (hw : w = Γ.w) (hK : K = Γ.K) (ht : tb = Γ.tb) (hE : XR Γ E' E)
    (ha : QA Γ X (e :: es) za) (fy : (x == ("__debug__" : Str)) = false := by decide) (he : starEach (e :: es) X.env = (false, eval e X.env) :: starEach es X.env := by rfl) (fm : (backTo pos (starEach es X.env)).any (·.1) = false := by rfl) :
    QE Γ X (.Call (.Name x p) (e :: es) [] pos) (zCall S E' za) := (Ak F hr hg hm hk hb .nil hx ha fy he fm).imp fun σ H Q h => D5 hP hw hK ht hE h
end
noncomputable def zRaise (C : Addr) (E' : ZX) (za : dJ) : bA := fun _ ρ M => za ρ M fun ds M1 => ds.length ≤ sizeLine ∧ E' C M1
theorem yh {x : Str} {C : Addr} {iB : Expr} {rest : List Expr} {za : dJ} {oy : List Value} {B newId qj : String} {E : XK} {E' : ZX} {np bg pos : Pos} (O : PySem.W.excIn X.K C oy newId = true) (FB : ExcBaseFacts B newId qj oy) (hc : X.calm = true) (hR : Raises X E) (hE : XR Γ E' E) (hg : Gl X x) (hm : X.mg x = some (.ref C)) (ha : QA Γ X (iB :: rest) za)
    (fy : (x == ("__debug__" : Str)) = false := by decide) (he : starEach (iB :: rest) X.env = (false, eval iB X.env) :: starEach rest X.env := by rfl) (fm : (backTo bg (starEach rest X.env)).any (·.1) = false := by rfl) :
    QS Γ X (.Raise (some (.Call (.Name x np) (iB :: rest) [] bg)) none pos) (zRaise C E' za) := (xU O FB hc hR hg hm ha fy he fm).imp fun D σ H ⟨β, ρ, M, D', zr, h, r⟩ => ⟨β, ρ, M, _, zr, h, fun ds M1 vs H1 x1 r1 h1 =>
  ⟨by rw [r1.len]; exact h1.1, hE C M1 H1 (qF zr.ent zr.sub zr.eP zr.ew zr.eK zr.et x1) h1.2⟩⟩
noncomputable def zTry (K : PySem.W.Frag) (C0 : Addr) (i n : Nat) (pb : ZX → bA) (ph : bA) : bA := fun D ρ M => pb (fun C M' => subIn K (.ref C) (.ref C0) = some true ∧ ph { D with nx := fun _ M2 => D.nx (List.replicate n none) M2, bk := fun _ M2 => D.bk (List.replicate n none) M2, ct := fun _ M2 => D.ct (List.replicate n none) M2 } ((List.replicate n none).set i (some (.exc C))) M') D ρ M
theorem D6 {body suite : List Stmt} {x n : Str} {i : Nat} {np qm pos : Pos} {ni : Stmt} {C0 : Addr} {pb : ZX → bA} {ph : bA} {nn : Nat} (KJ : X.N.length = nn) (hN : X.N.Nodup) (hi : X.N[i]? = some n) (hl : X.env.scope.names.lookup n = some .local) (mq : X.stack = X.env :: X.outer ∧ X.env.frame = some X.env.locals) (hex : X.ex = []) (O : ik X.K C0) (hg : Gl X x) (hm : X.mg x = some (.ref C0))
    (hb : ∀ (T : Value → Shared → Prop) (pn : List (Addr × Obj)) (E : XK) (E' : ZX) (aV : Gz), aV.P = Γ.P → aV.w = Γ.w → aV.K = Γ.K → aV.tb = Γ.tb → Passes (aK X.prog X.w) (X.je T pn) E → XR aV E' E → il aV (X.je T pn) body (pb E')) (hs : ∀ a : Addr, il Γ (X.suite a) (ni :: suite) ph)
    (fy : (x == ("__debug__" : Str)) = false := by decide) :
    QS Γ X (.Try body [.ExceptHandler (some (.Name x np)) (some n) (ni :: suite) qm] [] [] pos) (zTry X.K C0 i nn pb ph) := by
  subst KJ
  refine (DI (tb := fun E => fun D σ H => ∃ (aV : Gz) (E' : ZX), aV.P = Γ.P ∧ aV.w = Γ.w ∧ aV.K = Γ.K ∧ aV.tb = Γ.tb ∧ XR aV E' E ∧ lS aV (pb E') D σ H) hN hi hl mq hex O hg hm (fun T pn E hp => ⟨fun pins s σ H D I h => ?_⟩) hs fy).imp fun D σ H ⟨β, ρ, M, D', zr, h, r⟩ => ⟨⟨β, M, H⟩, _, zr.eP, zr.ew, zr.eK, zr.et, ?_, β, ρ, M, D', ⟨rfl, rfl, rfl, rfl, fun _ h => h, zr.mz.wf, .refl, zr.mz, zr.len, zr.at'⟩, h, ?_⟩
  · obtain ⟨aV, E', e1, e2, e4, e3, hE, h⟩ := h
    exact (hb T pn E E' aV e1 e2 e4 e3 hp hE) pins s σ H D I h
  · intro C M' H' x' hC
    have x' : Ex β M H M' H' := x'
    obtain ⟨jP, KL⟩ := hC
    refine ⟨C, rfl, jP, fun a ha => ?_⟩
    have x2 := Ex.lay x'.mz ha (lg C a)
    have x3 := x'.trans x2
    have bare : ∀ {M2 : Mh} {H2 : Hp}, Ex β M H M2 H2 → Zr Γ β M2 (List.replicate X.N.length none) (blank X.N.length) H2 := fun x => ⟨zr.eP, zr.ew, zr.eK, zr.et, zr.sub, zr.wf, zr.ent.trans x.toEy, x.mz, by simp [blank], fun j d e => by
      rw [List.getElem?_replicate] at e
      split at e <;> cases e⟩
    refine ⟨β, _, M', _, (bare x3).set i (.exc (x'.mz.fz ha) aP), KL, ?_⟩
    have t5 : ∀ {M2 : Mh} {eQ : aA} {gb : St} {H2 : Hp}, Zr Γ β M2 eQ gb H2 → Zr Γ β M2 (List.replicate X.N.length none) (blank X.N.length) H2 := fun z => ⟨z.eP, z.ew, z.eK, z.et, z.sub, z.wf, z.ent, z.mz, by simp [blank], fun j d e => by
      rw [List.getElem?_replicate] at e
      split at e <;> cases e⟩
    exact ⟨fun eQ M2 gb H2 y z h => r.nx _ _ _ _ (x3.ev.trans y) (t5 z) h, fun d M2 v H2 y e z h => r.rt _ _ _ _ (x3.ev.trans y) e z h, fun eQ M2 gb H2 y z h => r.bk _ _ _ _ (x3.ev.trans y) (t5 z) h, fun eQ M2 gb H2 y z h => r.ct _ _ _ _ (x3.ev.trans y) (t5 z) h⟩
  · have up : ∀ {bM : aA} {M2 : Mh} {aJ : St} {H2 : Hp}, Zr ⟨β, M, H⟩ β M2 bM aJ H2 → Zr Γ β M2 bM aJ H2 := fun z => ⟨zr.eP, zr.ew, zr.eK, zr.et, zr.sub, zr.wf, zr.ent.trans z.ent, z.mz, z.len, z.at'⟩
    exact ⟨fun eQ M2 gb H2 y z h => r.nx _ _ _ _ y (up z) h, fun d M2 v H2 y e z h => r.rt _ _ _ _ y (zr.ent.trans e) z h, fun eQ M2 gb H2 y z h => r.bk _ _ _ _ y (up z) h, fun eQ M2 gb H2 y z h => r.ct _ _ _ _ y (up z) h⟩
noncomputable def zIsE (K : PySem.W.Frag) : kT := fun ds M Q => match ds with
  | [.exc C, .raw (.ref D)] => dE K C ∧ (match kitOne K (.ref C) (.ref D) with | some b => Q (.bl b) M | none => False)
  | [.exc C, .raw (.ty T)] => dE K C ∧ (match kitOne K (.ref C) (.type T) with | some b => Q (.bl b) M | none => False)
  | [.exc C, .tup es] => dE K C ∧ ∃ Ds : List Addr, es = Ds.map (fun D => .raw (.ref D)) ∧ (match kitAny K (.ref C) (Ds.map Value.ref) with | some b => Q (.bl b) M | none => False)
  | _ => False
theorem t6 (hK : X.K = K) : eS Γ X (.builtin "isinstance") (zIsE K) := ⟨_, xW hK, fun β xs ds M H Q Q' _ _ _ m rs z q => by
  unfold zIsE at z
  split at z
  · rename_i C D
    obtain ⟨x, y, rfl, r, r'⟩ := gG rs
    obtain ⟨a, rfl, f, h⟩ := jT r
    have e := gf r'
    subst e
    obtain ⟨hC, z⟩ := z
    split at z
    · rename_i b hb
      exact ⟨a, C, b, h, hC, .inl ⟨D, rfl, hb⟩, q _ _ _ _ (.refl m) (.bl _) z⟩
    · exact z.elim
  · rename_i C T
    obtain ⟨x, y, rfl, r, r'⟩ := gG rs
    obtain ⟨a, rfl, f, h⟩ := jT r
    have e := gf r'
    subst e
    obtain ⟨hC, z⟩ := z
    split at z
    · rename_i b hb
      exact ⟨a, C, b, h, hC, .inr (.inl ⟨T, rfl, hb⟩), q _ _ _ _ (.refl m) (.bl _) z⟩
    · exact z.elim
  · rename_i C es
    obtain ⟨x, y, rfl, r, r'⟩ := gG rs
    obtain ⟨a, rfl, f, h⟩ := jT r
    obtain ⟨b2, vs, rfl, f2, h2, c9⟩ := cR r'
    obtain ⟨hC, Ds, rfl, z⟩ := z
    split at z
    · rename_i b hb
      have ev : vs = Ds.map V.ref := by
        refine List.ext_getElem? fun i => ?_
        cases e : vs[i]? with
        | none =>
          have := List.getElem?_eq_none_iff.mp e
          have l := c9.len
          simp at l
          rw [List.getElem?_map, List.getElem?_eq_none_iff.mpr (by omega)]
          rfl
        | some v =>
          obtain ⟨d, hd, rd⟩ := c9.get' e
          rw [List.getElem?_map] at hd
          cases e2 : Ds[i]? with
          | none => rw [e2] at hd; cases hd
          | some D => rw [e2] at hd; cases hd; rw [List.getElem?_map, e2, gf rd]; rfl
      subst ev
      exact ⟨a, C, b, h, hC, .inr (.inr ⟨b2, Ds, rfl, h2, hb⟩), q _ _ _ _ (.refl m) (.bl _) z⟩
    · exact z.elim
  · exact z.elim⟩
section
variable {tg elt iter : Expr} {ifs : List Expr} {scope : Scope} {pos : Pos} {N' : List Str} {tn : Nat} {idx : List Nat} {zi : dF} {g : cm} {tt : cj} {te : aE} {c P : Addr} {k : Nat}
theorem kX (hc : X.calm = true) (B : bf X.N X.env.scope scope N' tn idx) (hi : QI Γ X tg iter zi)
    (hg : Blk X N' scope fun Y => QG Γ Y tg g) (ht : Blk X N' scope fun Y => sN Γ Y ifs tt) (he : Blk X N' scope fun Y => QE Γ Y elt te)
    (hs : ∀ x, foldedSetIterable iter X.env x = pure x := by intro _; rfl) : QE Γ X (.ListComp elt [⟨tg, iter, ifs, 0⟩] scope pos) (zComp tn idx zi g tt te) := (rE hc B hi hg ht he hs).imp fun σ H Q h => vU h
theorem t7 {i : Nat} {y : Str} {py jL : Pos} (hN : X.N.Nodup) (dR : X.N[i]? = some y) (hy : X.env.scope.names.lookup y = some .local) (hc : X.calm = true) (B : bf X.N X.env.scope scope N' tn idx) (hi : QI Γ X tg iter zi)
    (hg : Blk X N' scope fun Y => QG Γ Y tg g) (ht : Blk X N' scope fun Y => sN Γ Y ifs tt) (he : Blk X N' scope fun Y => QE Γ Y elt te)
    (vr : swapsWith (.ListComp elt [⟨tg, iter, ifs, 0⟩] scope pos) (some (.Name y py)) jL.line X.env = pure true := by rfl)
    (hs : ∀ x, foldedSetIterable iter X.env x = pure x := by intro _; rfl) : QS Γ X (.Assign [.Name y py] (.ListComp elt [⟨tg, iter, ifs, 0⟩] scope pos) jL) (zAsg (zComp tn idx zi g tt te) (zgName i)) := (md hN dR hy hc B hi hg ht he vr hs).imp fun D σ H h => tZ (fun _ _ _ h => vU h) h
theorem rJ {i : Nat} {y : Str} {py jL : Pos} (hN : X.N.Nodup) (dR : X.N[i]? = some y) (hy : X.env.scope.names.lookup y = some .local) (hc : X.calm = true) (B : bf X.N X.env.scope scope N' tn idx) (hi : QI Γ X tg iter zi)
    (hg : Blk X N' scope fun Y => QG Γ Y tg g) (ht : Blk X N' scope fun Y => sN Γ Y ifs tt) (he : Blk X N' scope fun Y => QE Γ Y elt te)
    (vr : swapsWith (.ListComp elt [⟨tg, iter, ifs, 0⟩] scope pos) (some (.Name y py)) jL.line X.env = pure true := by rfl)
    (hs : ∀ x, foldedSetIterable iter X.env x = pure x := by intro _; rfl) : QS Γ X (.Assign [.Name y py] (.ListComp elt [⟨tg, iter, ifs, 0⟩] scope pos) jL) (zAsg (zCompP tn idx zi g tt te) (zgName i)) := (md hN dR hy hc B hi hg ht he vr hs).imp fun D σ H h => tZ (fun _ _ _ h => AU h) h
theorem v3 {p pZ : Pos} (hP : P ∈ Γ.tb) (hr : b7 (k + 1) X.A) (hc : X.calm = true) (B : bf X.N X.env.scope scope N' tn idx)
    (h0 : scope.names.lookup (".0" : Str) = some .local) (ot : scope.isCoroutine = false) (me : X.env.code = .ref c) (hd : PySem.W.CodeHd X.base c P) (ig : ∃ bm ob, BMod X.base mainGlobals X.mg bm ob)
    (Dj : Gl X "all") (hm : X.mg "all" = none) (hi : QI Γ X tg iter zi) (hg : k9 X N' scope k fun Y => QG Γ Y tg g) (ht : k9 X N' scope k fun Y => sN Γ Y ifs tt) (he : k9 X N' scope k fun Y => QE Γ Y elt te)
    (hs : ∀ x, genFold iter X.env x = pure x := by intro _; rfl) : QE Γ X (.Call (.Name "all" p) [dn elt tg iter ifs scope pZ] [] pos) (zAll tn idx zi g tt te) := (Di hr hc B h0 ot me hd ig Dj hm hi hg ht he hs).imp fun σ H Q h => F5 hP h
end
end
section
variable {X : Cx} {Γ : Gz} {β : Bz} {K : PySem.W.Frag}
section
variable {tg elt iter : Expr} {ifs : List Expr} {scope : Scope} {pos : Pos} {N' : List Str} {tn : Nat} {idx : List Nat} {zi : dF} {g : cm} {tt : cj} {te : aE} {c P : Addr} {k : Nat}
noncomputable def t8 (g : cm) (tt : cj) (te : aE) : List Dv → aA → Mh → (List Int → Mh → Prop) → List Int → Prop
  | [], _, M, Q, acc => Q acc M
  | d :: ds, τ, M, Q, acc => g d τ M fun aF M2 => tt aF M2 fun b M3 => if b = true then te aF M3 fun y M4 => (match y with | .int k => acc.length + 1 < scanBound ∧ t8 g tt te ds aF M4 Q (fB acc k) | _ => False) else t8 g tt te ds aF M3 Q acc
noncomputable def zSetC (tn : Nat) (idx : List Nat) (zi : dF) (g : cm) (tt : cj) (te : aE) : aE := fun ρ M Q => zi ρ M fun ds M1 => t8 g tt te ds (zBlock tn idx ρ) M1 (fun ns M2 => Q (.set ns) M2) []
end
noncomputable def g5 (xs ys : List Dv) : List Dv := (xs.zip ys).map fun p => .tup [p.1, p.2]
noncomputable def iD (n : Nat) : List Dv := (List.range n).map fun i => .int (i : Nat)
theorem AX {n : Nat} {M : Mh} {H : Hp} : aT β M H ((List.range n).map fun i => V.int (i : Nat)) (iD n) := ⟨by simp [iD], fun i v d a b => by
  unfold iD at b
  rw [List.getElem?_map] at a b
  cases e : (List.range n)[i]? with
  | none => rw [e] at a; cases a
  | some c => rw [e] at a b; cases a; cases b; exact .int _⟩
section
variable {elts : List Expr} {x1 : Nat} {tp p pos : Pos} {l l1 l2 : Expr} {pl p1 p2 : aE}
noncomputable def ziEnumK (k : Bool) (p : aE) : dF := fun ρ M R => p ρ M fun d M1 => match k, d with | false, .tup ds => R (g5 (iD ds.length) ds) M1 | true, .lst ds => R (g5 (iD ds.length) ds) M1 | _, _ => False
noncomputable def seqK (k : Bool) (d : Dv) (R : List Dv → Prop) : Prop := match k, d with | false, .tup ds => R ds | true, .lst ds => R ds | _, _ => False
noncomputable def ziZip (k1 k2 : Bool) (p1 p2 : aE) : dF := fun ρ M R => p1 ρ M fun d M1 => p2 ρ M1 fun e M2 => seqK k1 d fun xs => seqK k2 e fun ys => R (g5 xs ys) M2
end
noncomputable def zRangeT (p : aE) : aE := fun ρ M Q => p ρ M fun d M1 => match d with | .int j => -(2 ^ 20) ≤ j ∧ j ≤ 2 ^ 20 ∧ Q (.tup ((DE j.toNat).map .int)) M1 | _ => False
noncomputable def zRangeL (p : aE) : aE := fun ρ M Q => p ρ M fun d M1 => match d with | .int j => -(2 ^ 24) ≤ j ∧ j ≤ 2 ^ 24 ∧ Q (.lst (iD j.toNat)) M1 | _ => False
noncomputable def zRangeP (p : aE) : aE := fun ρ M Q => p ρ M fun d M1 => match d with | .int j => -(2 ^ 24) ≤ j ∧ j ≤ 2 ^ 24 ∧ ∀ a, M1 a = none → Q (.ptr a) (az M1 a (.lst (iD j.toNat))) | _ => False
section
variable {e : Expr} {pe : aE} {p p1 p2 pos : Pos}
theorem oN (hc : X.calm = true) (hg : Gl X "list") (hm : X.mg "list" = none) (Dl : Gl X "range") (Dm : X.mg "range" = none) (he : QE Γ X e pe) (hs : starEach [e] X.env = [(false, eval e X.env)] := by rfl) :
    QE Γ X (.Call (.Name "list" p) [.Call (.Name "range" p1) [e] [] p2] [] pos) (zRangeP pe) := (p0 hc hg hm Dl Dm he hs).imp fun σ H Q ⟨β, ρ, M, Q', zr, h, q⟩ => ⟨β, ρ, M, _, zr, h, fun d M1 v H1 x1 r1 h1 => by
  revert h1
  split
  · rename_i j
    rintro ⟨b1, b2, h1⟩
    refine ⟨_, aO r1, b1, b2, fun l hl => ?_⟩
    have x2 := Ex.own x1.mz (.inr hl) (AX (n := j.toNat) (β := β) (M := M1) (H := H1))
    exact q _ _ _ _ (x1.trans x2) (.ptr (by rw [updM_same]; rfl)) (h1 l (x1.mz.free hl))
  · exact fun h => h.elim⟩
noncomputable def zNeg (p : aE) : aE := fun ρ M Q => p ρ M fun d M1 => match d with | .int i => Q (.int (-i)) M1 | _ => False
theorem v7 (ha : QE Γ X e pe) : QE Γ X (.UnaryOp .USub e pos) (zNeg pe) := (FG CA ha).imp fun σ H Q ⟨β, ρ, M, Q', zr, h, q⟩ => ⟨β, ρ, M, _, zr, h, fun d M1 v H1 x1 r1 h1 => by
  revert h1
  split
  · intro h1
    exact ⟨_, aO r1, q _ _ _ _ x1 (.int _) h1⟩
  · exact fun h => h.elim⟩
noncomputable def truD (M : Mh) : Dv → Option Bool
  | .bl b => some b
  | .aC => some false
  | .int i => some (i != 0)
  | .str z => if z.length ≤ sizeLine then some ((z.length : Int) != 0) else none
  | .tup ds => some (!ds.isEmpty)
  | .lst ds => some (!ds.isEmpty)
  | .ptr a => match M a with | some (.lst ds) => some (!ds.isEmpty) | _ => none
  | _ => none
noncomputable def zTruth (p : aE) : cj := fun ρ M Q => p ρ M fun d M1 => match truD M1 d with | some b => Q b M1 | none => False
end
theorem qv (i : Nat) {x : Str} {pos : Pos} (hN : X.N[i]? = some x := by rfl) (hv : pF X.env.scope x := by first | exact Or.inl rfl | exact Or.inr (Or.inl rfl) | exact Or.inr (Or.inr rfl)) (hd : (x == ("__debug__" : Str)) = false := by decide)
    (fx : (x == ("__classdict__" : Str)) = false := by decide) : QE Γ X (.Name x pos) (zVar i) := DN hN hv hd fx
end
theorem KN {c : Bool} {A B : Prop} (h : c = true) (a : A) : if c = true then A else B := by rw [if_pos h]; exact a
theorem KO {c : Bool} {A B : Prop} (h : c = false) (b : B) : if c = true then A else B := by rw [h, if_neg Bool.false_ne_true]; exact b
theorem dN {c : Bool} {A B : Prop} (h1 : c = true → A) (h2 : c = false → B) : if c = true then A else B := by
  cases c
  · exact KO rfl (h2 rfl)
  · exact KN rfl (h1 rfl)
theorem nu {g : cm} {te : aE} {M : Mh} (p : Dv → Bool) (I : aA → Prop) : ∀ {ds : List Dv} {τ : aA} {Q : Bool → Mh → Prop}, I τ → (∀ d ∈ ds, ∀ τ, I τ → ∀ R : aA → ZK, (∀ aF, I aF → R aF (.bl (p d)) M) → g d τ M fun aF M2 => te aF M2 (R aF)) → Q (ds.all p) M → ip g zNoIf te ds τ M Q
  | [], τ, Q, _, _, q => q
  | d :: ds, τ, Q, i, h, q => by
    refine h d List.mem_cons_self τ i (fun aF => zBool fun c M4 => if c = false then Q false M4 else ip g zNoIf te ds aF M4 Q) fun aF i2 => ?_
    show if p d = false then Q false M else ip g zNoIf te ds aF M Q
    cases e : p d with
    | false =>
      rw [if_pos rfl]
      rw [List.all_cons, e] at q
      exact q
    | true =>
      rw [if_neg (by decide)]
      rw [List.all_cons, e, Bool.true_and] at q
      exact nu p I i2 (fun d' hd => h d' (List.mem_cons_of_mem _ hd)) q
theorem sS {g : cm} {te : aE} (f : Dv → Dv) (I : aA → Mh → Prop) : ∀ {ds : List Dv} {τ : aA} {M : Mh} {Q : List Dv → Mh → Prop}, I τ M → (∀ d ∈ ds, ∀ τ M, I τ M → ∀ R : aA → ZK, (∀ aF M2, I aF M2 → R aF (f d) M2) → g d τ M fun aF M2 => te aF M2 (R aF)) → (∀ τ M, I τ M → Q (ds.map f) M) → fc g zNoIf te ds τ M Q
  | [], τ, M, Q, i, _, q => q τ M i
  | d :: ds, τ, M, Q, i, h, q => by
    refine h d List.mem_cons_self τ M i (fun aF y M4 => fc g zNoIf te ds aF M4 fun ys M5 => Q (y :: ys) M5) fun aF M2 i2 => ?_
    exact sS f I i2 (fun d' hd => h d' (List.mem_cons_of_mem _ hd)) fun kU M3 i3 => q kU M3 i3
theorem ny {g : cm} {tt : cj} {te : aE} (t : Dv → Bool) (f : Dv → Dv) (I : aA → Mh → Prop) : ∀ {ds : List Dv} {τ : aA} {M : Mh} {Q : List Dv → Mh → Prop}, I τ M →
    (∀ d ∈ ds, ∀ τ M, I τ M → ∀ (R0 : aA → Mh → Prop) (R : aA → ZK), (t d = true → ∀ aF M2, I aF M2 → R aF (f d) M2) → (t d = false → ∀ aF M2, I aF M2 → R0 aF M2) → g d τ M fun aF M2 => tt aF M2 fun b M3 => if b = true then te aF M3 (R aF) else R0 aF M3) →
    (∀ τ M, I τ M → Q ((ds.filter t).map f) M) → fc g tt te ds τ M Q
  | [], τ, M, Q, i, _, q => q τ M i
  | d :: ds, τ, M, Q, i, h, q => by
    refine h d List.mem_cons_self τ M i (fun aF M3 => fc g tt te ds aF M3 Q) (fun aF y M4 => fc g tt te ds aF M4 fun ys M5 => Q (y :: ys) M5) (fun e aF M2 i2 => ?_) fun e aF M2 i2 => ?_
    · refine ny t f I i2 (fun d' hd => h d' (List.mem_cons_of_mem _ hd)) fun kU M3 i3 => ?_
      have := q kU M3 i3
      rw [List.filter_cons, if_pos e] at this
      exact this
    · refine ny t f I i2 (fun d' hd => h d' (List.mem_cons_of_mem _ hd)) fun kU M3 i3 => ?_
      have := q kU M3 i3
      rw [List.filter_cons, if_neg (by rw [e]; decide)] at this
      exact this
noncomputable abbrev eI (ns : List Int) : Dv := .tup (ns.map .int)
noncomputable abbrev eN (aD : List (List Int)) : Dv := .tup (aD.map eI)
noncomputable abbrev g6 (ns : List Int) : Dv := .lst (ns.map .int)
theorem dX {M : Mh} (ns : List Int) : ∀ d ∈ ns.map Dv.int, Pin M d := fun d hd => by
  obtain ⟨i, _, rfl⟩ := List.mem_map.mp hd
  exact .int i
theorem jZ {M : Mh} (ns : List Int) : Pin M (eI ns) := .tup (dX ns)
theorem v8 {M : Mh} (aD : List (List Int)) : Pin M (eN aD) := .tup fun d hd => by
  obtain ⟨r, _, rfl⟩ := List.mem_map.mp hd
  exact jZ r
theorem AY {α β : Type} {f : α → β} {xs : List α} {i : Int} {x : α} (h : cB xs i = some x) : cB (xs.map f) i = some (f x) := by
  unfold cB at h ⊢
  rw [List.length_map]
  cases e : fA xs.length i with
  | none => rw [e] at h; cases h
  | some j => rw [e] at h; simp only [Option.bind_some] at h ⊢; rw [List.getElem?_map, h]; rfl
theorem wa {α : Type} {xs : List α} {k : Nat} (h : k < xs.length) : cB xs ((k : Nat) : Int) = some xs[k] := bS (List.getElem?_eq_getElem h)
noncomputable def spLaw (K : PySem.W.Frag) (tb : eG) : Sp := fun vs H Q _ => ∃ (a : Addr) (ns : List Int), vs = [.ref a] ∧ bQ K H a (ns.map V.int) ∧ ns.length ≤ 63 ∧ zt tb.g H ∧ (∀ p ∈ tb.l, Lm H p) ∧ ∀ H', (∀ p ∈ tb.l, ∃ ps, H' p.1 = some (.lam ps)) → Q (.bl true) H'
noncomputable def D7 : dM := fun ds M Q _ => ∃ ns : List Int, ds = [.bp ns] ∧ ns.length ≤ 63 ∧ (∀ a, M a = none) ∧ ∀ M', Q (.bl true) M'
theorem D8 {P : Program} {w : World} {K : PySem.W.Frag} {mg : Str → Option Value} {base : Heap} {k : Nat} {f : Addr} {fd : FuncData} {x : Str} {tb : eG} (G : FnOk P w K mg base b9 k f fd [x] (aB P w K tb D7)) : FnOk P w K mg base b9 k f fd [x] (spLaw K tb) :=
  G.imp fun vs H Q E ⟨a, ns, e, hS, hl, hT, hL, q⟩ => by
    subst e
    have m : Mz ⟨P, w, K, tb, []⟩ (fun _ => none) H := ⟨(fun a o e => nomatch e), hT, (fun a ha => absurd ha (by simp)), (fun a o e => nomatch e), hL⟩
    refine ⟨⟨P, w, K, tb, []⟩, [.bp ns], fun _ => none, fun d _ => d = .bl true, fun _ _ => False, rfl, rfl, rfl, rfl, m, .cons ?_ .nil, ⟨ns, rfl, hl, fun _ => rfl, fun _ => rfl⟩, fun d M' v H' x r h => ?_, fun _ _ _ _ h => h.elim⟩
    · have fz : Fz ⟨P, w, K, tb, []⟩ (fun _ => none) a := ⟨rfl, by simp⟩
      rcases hS with (h | ⟨o, h⟩) | h
      · exact .cz fz h
      · exact .bp fz h
      · exact .cA h
    · subst h
      rw [cW r]
      exact q H' fun p hp => let ⟨ps, e, _⟩ := x.mz.lams p hp; ⟨ps, e⟩
noncomputable def Keeps (M0 M : Mh) : Prop := ∀ a o, M0 a = some o → M a = some o
theorem Keeps.refl {M0 : Mh} : Keeps M0 M0 := fun _ _ h => h
theorem Keeps.upd {M0 M : Mh} {a : Addr} {o : Mo} (ha : M0 a = none) (h : Keeps M0 M) : Keeps M0 (az M a o) := fun b u e => by
  rw [aq (fun z => by rw [z, ha] at e; cases e)]
  exact h b u e
theorem wc {M0 M : Mh} {Q : ZK} {d : Dv} (h : Keeps M0 M) (p : Pin M0 d) (q : Q d M0) : jY M0 Q d M := .inr ⟨h, d, .pin p, q⟩
theorem wd {M0 M : Mh} {Q : ZK} {a : Addr} {ds : List Dv} (h : Keeps M0 M) (h0 : M0 a = none) (ha : M a = some (.lst ds)) (p : ∀ d ∈ ds, Pin M0 d) (q : Q (.lst ds) M0) : jY M0 Q (.ptr a) M := .inr ⟨h, .lst ds, .ptr h0 ha rfl fun i d d' e e' => by
  rw [e] at e'
  cases e'
  exact .pin (p d (List.mem_of_getElem? e)), q⟩
theorem cU {lo : Int} {n i : Nat} {d : Dv} (h : (de lo n)[i]? = some d) : d = .int (lo + (i : Nat)) ∧ i < n := by
  unfold de at h
  rw [List.getElem?_map] at h
  cases e : (List.range n)[i]? with
  | none => rw [e] at h; cases h
  | some k =>
    rw [e] at h
    obtain ⟨h1, h2⟩ := List.getElem?_eq_some_iff.mp e
    rw [List.getElem_range] at h2
    subst h2
    exact ⟨(Option.some.inj h).symm, by simpa using h1⟩
theorem mG {lo : Int} {n : Nat} {d : Dv} (h : d ∈ de lo n) : ∃ i : Nat, i < n ∧ d = .int (lo + (i : Nat)) := by
  obtain ⟨i, hi⟩ := List.mem_iff_getElem?.mp h
  obtain ⟨e, l⟩ := cU hi
  exact ⟨i, l, e⟩
theorem rangeD_len (lo : Int) (n : Nat) : (de lo n).length = n := by simp [de]
theorem atI_zero {α : Type} {x : α} {xs : List α} : cB (x :: xs) 0 = some x := bS (j := 0) rfl
theorem D9 {α : Type} {f : α → Dv} {xs : List α} {k : Nat} {d : Dv} (h : (xs.map f)[k]? = some d) : ∃ x, xs[k]? = some x ∧ d = f x := by
  rw [List.getElem?_map, Option.map_eq_some_iff] at h
  obtain ⟨x, h, e⟩ := h
  exact ⟨x, h, e.symm⟩
theorem pairsD_len (xs ys : List Dv) : (g5 xs ys).length = min xs.length ys.length := by simp [g5]
theorem numD_len (n : Nat) : (iD n).length = n := by simp [iD]
theorem sT (xs : List Dv) (lo hi : Option Int) : cutD xs lo hi = (xs.drop (HT.aR xs.length 0 lo)).take (HT.aR xs.length xs.length hi - HT.aR xs.length 0 lo) := rfl
theorem sU {n d k : Nat} : HT.aR n d (some (k : Nat)) = min k n := by
  unfold HT.aR
  simp only []
  split <;> omega
theorem sV {xs : List Dv} {k : Nat} : cutD xs none (some (k : Nat)) = xs.take k := by
  rw [sT, sU]
  show (xs.drop 0).take (min k xs.length - 0) = xs.take k
  rw [List.drop_zero, Nat.sub_zero]
  by_cases h : k ≤ xs.length
  · rw [Nat.min_eq_left h]
  · rw [Nat.min_eq_right (by omega), List.take_of_length_le (Nat.le_refl _), List.take_of_length_le (by omega)]
theorem we {xs : List Dv} {k : Nat} : cutD xs (some (k : Nat)) none = xs.drop k := by
  rw [sT, sU]
  show (xs.drop (min k xs.length)).take (xs.length - min k xs.length) = xs.drop k
  by_cases h : k ≤ xs.length
  · rw [Nat.min_eq_left h, List.take_of_length_le (by rw [List.length_drop]; omega)]
  · rw [Nat.min_eq_right (by omega), List.drop_of_length_le (Nat.le_refl _), List.drop_of_length_le (by omega)]
    exact List.take_nil
end L2
namespace L2
open PySem PySem.Spec PyProof.Rows
noncomputable def qG (N : List Str) (sc scope : Scope) (N' : List Str) (tn : Nat) (idx : List Nat) : Prop :=
  scope.kind = .function ∧ (∀ y ∈ scope.names, (y.2 = .cell → scope.names.lookup y.1 = some .cell) ∧ (y.2 = .local → scope.names.lookup y.1 = some .local) ∧ (y.2 = .free → sc.names.lookup y.1 = some .cell ∨ sc.names.lookup y.1 = some .free)) ∧
    N'.length = tn + idx.length ∧ ∀ p ∈ idx.zip (N'.drop tn), N[p.1]? = some p.2 ∧ scope.names.lookup p.2 = some .free
instance (N : List Str) (sc scope : Scope) (N' : List Str) (tn : Nat) (idx : List Nat) : Decidable (qG N sc scope N' tn idx) := by unfold qG; infer_instance
end L2
namespace L2
open PySem PySem.Spec PySem.W PyProof.Rows
section
variable {X : Cx} {Γ : Gz} {β : Bz} {K : PySem.W.Frag}
noncomputable def zInI (neg : Bool) : cC := fun d e M Q => match d, (itemsM M e).bind dq with | .int i, some ns => Q (.bl (if neg then !decide (i ∈ ns) else decide (i ∈ ns))) M | _, _ => False
noncomputable def boolsD : List Dv → Option (List Bool)
  | [] => some []
  | .bl b :: ds => (boolsD ds).map (b :: ·)
  | _ :: _ => none
noncomputable def zAllB (d : Dv) (M : Mh) (Q : ZK) : Prop := match d with | .lst ds => (match boolsD ds with | some bs => Q (.bl (bs.all id)) M | none => False) | _ => False
theorem Pin.mono {M M' : Mh} {d : Dv} (h : Pin M d) : (∀ a, (M a).isSome = true → (M' a).isSome = true) → Pin M' d := by
  intro k
  induction h with
  | int i => exact .int i
  | bl b => exact .bl b
  | aC => exact .aC
  | str z => exact .str z
  | tup h ih => exact .tup ih
  | lst h ih => exact .lst ih
  | dk h ih => exact .dk ih
  | dt h ih => exact .dt ih
  | cG h ih => exact .cG ih
  | set ns => exact .set ns
  | ptr h => exact .ptr (k _ h)
  | exc C => exact .exc C
  | bp ns => exact .bp ns
  | raw v => exact .raw v
noncomputable def cn (M : Mh) (a : Addr) : Mh := fun b => if b = a then none else M b
theorem du {M : Mh} {a : Addr} : cn M a a = none := by unfold cn; rw [if_pos rfl]
theorem cu {M : Mh} {a b : Addr} (h : b ≠ a) : cn M a b = M b := by unfold cn; rw [if_neg h]
theorem mH {M : Mh} {a : Addr} {o : Mo} (h : M a = none) : cn (az M a o) a = M := by
  funext b
  unfold cn az
  by_cases e : b = a
  · rw [if_pos e, e, h]
  · rw [if_neg e, if_neg e]
structure Ea (M1 M : Mh) (ρ : aA) : Prop where
  env : ∀ (i : Nat) (d : Dv), ρ[i]? = some (some d) → Pin M d
  obj : ∀ b o, M b = some o → M1 b = some o ∨ ∀ d ∈ o.items, Pin M d
theorem Zr.freeze {M : Mh} {ρ : aA} {σ : St} {H : Hp} {i : Nat} {a : Addr} {ds : List Dv} (z : Zr Γ β M ρ σ H) (hi : ρ[i]? = some (some (.ptr a))) (ha : M a = some (.lst ds)) (h0 : Γ.M0 a = none) (fr : Ea Γ.M0 (cn M a) (ρ.set i (some (.lst ds)))) :
    Zr Γ β (cn M a) (ρ.set i (some (.lst ds))) σ H ∧ Ev β M H (cn M a) H := by
  have rz : ∀ {v : V} {d : Dv}, Rz β M H v d → Pin (cn M a) d → Rz β (cn M a) H v d := fun r p => r.kn (M0 := cn M a) (fun b hb => by
    by_cases e : b = a
    · rw [e, du] at hb; cases hb
    · rw [cu e] at hb; exact hb) p
  have zz : i < ρ.length := (List.getElem?_eq_some_iff.mp hi).1
  have KP : ∀ d ∈ ds, Pin (cn M a) d := fun d hd => by
    have := fr.env i (.lst ds) (by rw [List.getElem?_set_self zz])
    cases this with | lst h => exact h d hd
  have obj : ∀ b es, cn M a b = some es → ∀ d ∈ es.items, Pin (cn M a) d := fun b es e d hd => by
    rcases fr.obj b es e with q | q
    · refine (z.wf b es q d hd).mono fun c hc => ?_
      have nc : c ≠ a := fun w => by rw [w, h0] at hc; cases hc
      rw [cu nc]
      exact z.ent.dom c hc
    · exact q d hd
  have mz : Mz β (cn M a) H := by
    refine ⟨fun b o e => ?_, z.mz.tabs, z.mz.hids, fun b o e => ?_, z.mz.lams⟩
    · have nb : b ≠ a := fun q => by rw [q, du] at e; cases e
      have e' : M b = some o := by rw [cu nb] at e; exact e
      have q := z.mz.obj b o e'
      cases o with
      | lst es => obtain ⟨vs, hv, rs⟩ := q; exact ⟨vs, hv, rs.len, fun j v d x y => rz (rs.at' j v d x y) (obj b _ e d (List.mem_of_getElem? y))⟩
      | dk ks es => obtain ⟨vs, hv, hk, rs⟩ := q; exact ⟨vs, hv, hk, rs.len, fun j v d x y => rz (rs.at' j v d x y) (obj b _ e d (List.mem_of_getElem? y))⟩
      | dt ks es => obtain ⟨vs, hv, hk, rs⟩ := q; exact ⟨vs, hv, hk, rs.len, fun j v d x y => rz (rs.at' j v d x y) (obj b _ e d (List.mem_of_getElem? y))⟩
      | cQ => exact q
    · have nb : b ≠ a := fun q => by rw [q, du] at e; cases e
      rw [cu nb] at e
      exact z.mz.apart b o e
  refine ⟨⟨z.eP, z.ew, z.eK, z.et, z.sub, z.wf, ⟨z.ent.keep, fun b hb => ?_, fun b o m h => ?_⟩, mz, by simp [z.len], fun j d e => ?_⟩, ⟨fun b o _ h => .inl h, fun b o m h => ?_, mz⟩⟩
  · have nb : b ≠ a := fun q => by rw [q, h0] at hb; cases hb
    rw [cu nb]; exact z.ent.dom b hb
  · by_cases e : b = a
    · rw [e, du]
    · rw [cu e]; exact z.ent.new b o m h
  · have p := fr.env j d e
    rw [List.getElem?_set] at e
    split at e
    · rename_i q
      subst q
      first
        | cases e
        | (rw [if_pos zz] at e; cases e)
      obtain ⟨v, hv, r⟩ := z.at' i _ hi
      obtain ⟨rfl, _⟩ := cS r
      obtain ⟨vs, hl, rs⟩ := z.mz.obj a _ ha
      refine ⟨_, hv, .lst ⟨du, z.mz.apart a _ ha⟩ hl rs.len fun k v d x y => rz (rs.at' k v d x y) (KP d (List.mem_of_getElem? y))⟩
    · obtain ⟨v, hv, r⟩ := z.at' j d e
      exact ⟨v, hv, rz r p⟩
  · by_cases e : b = a
    · rw [e, du]
    · rw [cu e]; exact m
noncomputable def Jh (i : Nat) (M0 : Mh) (p : bA) : bA := fun D ρ M => p D ρ M ∨ ∃ a ds, ρ[i]? = some (some (.ptr a)) ∧ M a = some (.lst ds) ∧ M0 a = none ∧ Ea M0 (cn M a) (ρ.set i (some (.lst ds))) ∧ p D (ρ.set i (some (.lst ds))) (cn M a)
theorem wg (i : Nat) {M1 : Mh} {st : Stmt} {p : bA} (hM : Γ.M0 = M1) (h : QS Γ X st p) : QS Γ X st (Jh i M1 p) := h.imp fun D σ H ⟨β, ρ, M, D', zr, h, r⟩ => by
  rcases h with h | ⟨a, ds, hi, ha, h0, fr, h⟩
  · exact ⟨β, ρ, M, D', zr, h, r⟩
  · obtain ⟨z2, e2⟩ := zr.freeze hi ha (by rw [hM]; exact h0) (by rw [hM]; exact fr)
    exact ⟨β, _, _, D', z2, h, r.step e2⟩
end
noncomputable def zCount : jD := fun d ds M Q => match d, ds with | .tup xs, [.int i] => (match dq xs with | some ns => Q (.int (ns.count i : Nat)) M | none => False) | _, _ => False
noncomputable def zSum (d : Dv) (M : Mh) (Q : ZK) : Prop := match d with | .lst ds => (match dq ds with | some ns => Q (.int ns.sum) M | none => False) | _ => False
noncomputable def zReverse : jD := fun d ds M Q => match d, ds with | .ptr a, [] => (match M a with | some (.lst xs) => Q .aC (az M a (.lst xs.reverse)) | _ => False) | _, _ => False
end L2
namespace L2
open PySem PySem.Spec PyProof.Rows
section
variable {κ : Type} [DecidableEq κ] {α : Type}
noncomputable def look : List κ → List α → κ → Option α
  | k :: ks, d :: ds, x => if k = x then some d else look ks ds x
  | _, _, _ => none
noncomputable def zK : List κ → List α → κ → α → List α
  | k :: ks, d :: ds, x, y => (if k = x then y else d) :: zK ks ds x y
  | _, _, _, _ => []
noncomputable def putL (ks : List κ) (k : κ) : List κ := if k ∈ ks then ks else ks ++ [k]
noncomputable def Eb (ks : List κ) (ds : List α) (k : κ) (d : α) : List α := if k ∈ ks then zK ks ds k d else ds ++ [d]
end
noncomputable def keyD : Dv → Option Key
  | .int i => some (.inl i)
  | .str z => some (.inr z)
  | _ => none
noncomputable def pA : List Dv → Option (List Key)
  | [] => some []
  | d :: ds => match keyD d, pA ds with | some k, some ks => some (k :: ks) | _, _ => none
noncomputable def nowK (M : Mh) : Dv → Dv
  | .ptr a => match M a with | some (.dk ks ds) => .dk ks ds | some (.dt ks ds) => .dt ks ds | _ => .ptr a
  | d => d
noncomputable def lookD (M : Mh) (d e : Dv) : Option (Option Dv) := match nowK M d with
  | .dk ks ds => (match keyD e with | some k => some (look ks ds k) | none => none)
  | .dt ks ds => (match e with | .tup es => (match pA es with | some k => some (look ks ds k) | none => none) | _ => none)
  | _ => none
section
variable {X : Cx} {Γ : Gz} {β : Bz} {K : PySem.W.Frag} {M : Mh} {H : Hp}
noncomputable def zGetR : cC := fun d e M Q => match lookD M d e with | some (some r) => Q r M | _ => False
noncomputable def zDIn (neg : Bool) : cC := fun e d M Q => match lookD M d e with | some o => Q (.bl (if neg then !o.isSome else o.isSome)) M | none => False
noncomputable def zMGet : jD := fun d ds M Q => match ds with
  | [e] => (match lookD M d e with | some o => Q (o.getD .aC) M | none => False)
  | [e, z] => (match lookD M d e with | some o => Q (o.getD z) M | none => False)
  | _ => False
end
section
variable {X : Cx} {Γ : Gz} {β : Bz} {K : PySem.W.Frag}
noncomputable def zDNewK : aE := fun _ M Q => ∀ a, M a = none → Q (.ptr a) (az M a (.dk [] []))
noncomputable def zDNewT : aE := fun _ M Q => ∀ a, M a = none → Q (.ptr a) (az M a (.dt [] []))
noncomputable def zDisp1K (pk pv : aE) : aE := fun ρ M Q => pk ρ M fun e M1 => pv ρ M1 fun v M2 => match keyD e with | some k => ∀ a, M2 a = none → Q (.ptr a) (az M2 a (.dk [k] [v])) | none => False
noncomputable def zDisp1T (pk pv : aE) : aE := fun ρ M Q => pk ρ M fun e M1 => pv ρ M1 fun v M2 => match e with | .tup es => (match pA es with | some k => ∀ a, M2 a = none → Q (.ptr a) (az M2 a (.dt [k] [v])) | none => False) | _ => False
noncomputable def zDPut (pd pk pv : aE) : bA := fun D ρ M => pv ρ M fun v M1 => pd ρ M1 fun d M2 => pk ρ M2 fun e M3 => match d with
  | .ptr a => (match M3 a with
    | some (.dk ks ds) => (match keyD e with | some k => ks.length < sizeLine ∧ D.nx ρ (az M3 a (.dk (putL ks k) (Eb ks ds k v))) | none => False)
    | some (.dt ks ds) => (match e with | .tup es => (match pA es with | some k => ks.length < sizeLine ∧ D.nx ρ (az M3 a (.dt (putL ks k) (Eb ks ds k v))) | none => False) | _ => False)
    | _ => False)
  | _ => False
noncomputable def zLenK (d : Dv) (M : Mh) (Q : ZK) : Prop := match nowK M d with | .dk ks _ => Q (.int ks.length) M | _ => False
end
end L2
namespace L2
open PySem PySem.Spec PySem.W PyProof.Rows
structure KQ (K : PySem.W.Frag) (mg : Str → Option Value) (x : Str) (st : Stmt) (ps : List Str) (ds : List Value) (f : Addr) (fd : FuncData) : Prop where
  ex : ∃ (oc : Value) (od : Option Addr) (dV kV doc pm : Value) (an : Option Addr) (b8 ct : Value) (gv : Array (Option Value)),
    fd = PySem.W.fnOf x x (cf st) (bB st) (ak st) dV kV doc pm an b8 ct ∧ K.lookup f = some ⟨oc, od, .func fd, gv⟩ ∧ PySem.W.codeIn K b8 x = true
  kp : PySem.W.keepIn K (.ref f) = true
  bd : Binds K fd ps ds
  bd0 : Binds K fd ps []
  mg : mg x = some (.ref f)
section
variable {X : Cx} {Γ : Gz} {β : Bz} {CX : fk} {k : Nat} {f : Addr} {fd : FuncData} {ps : List Str} {E : XK} {E' : ZX} {x : Str} {p pos : Pos} {e : Expr} {es : List Expr} {za : dJ} {P : Program} {w : World} {tb : eG} {K : PySem.W.Frag}
noncomputable def zCallL (f : Addr) (o : Obj) (c : Addr) (oc : Obj) (vcs : List V) (S : List Dv → dM) (E' : ZX) (i : Nat) (za : dJ) : aE := fun ρ M Q => match ρ[i]? with
  | some (some (.cG f' o' c' Hy Ji KR)) => (f' = f ∧ o' = o ∧ c' = c ∧ Hy = oc ∧ Ji = vcs) ∧ za ρ M fun ds M1 => S KR ds M1 Q E'
  | _ => False
end
end L2
namespace L2
open PySem PySem.Spec PyProof.Rows
theorem wj {P : Program} {w : World} {K : PySem.W.Frag} {mg mb : Str → Option Value} {CX : fk} {k : Nat} {fa a : Addr} {fd : FuncData} {x : Str} {sp : Sp} {aw : Shared} {vs : List Value} {ns : List Int} {tabs lts : List Addr}
    (KX : K.In aw.heap) (lW : aw.heap.Ns mainGlobals mg) (hb : aw.heap.Ns builtinsNs mb) (KS : ∀ x : Str, x ≠ "__name__" → mb x = bootBuiltins x) (Ec : aw.heap.NoLimit) (hg : aw.gens = #[])
    (ha : aw.heap.get? a = some { cls := .type "list", data := .seq vs.toArray }) (hi : IntsAre vs ns) (hl : ns.length ≤ sizeLine) (hr : b7 k callerA)
    (gU : ∀ p ∈ tabs ++ lts, aw.heap.get? p = some (PySem.W.tabObj #[]) ∧ isCodeTable aw.heap p) (Jj : ∀ p ∈ tabs, p ∉ lts) (wk : PySem.W.kb_classed K = true) (ig : ∃ bm ob, BMod aw.heap mainGlobals mg bm ob)
    (F : ∀ base : Heap, K.In base → base.Ns mainGlobals mg → (∃ bm ob, BMod base mainGlobals mg bm ob) → (∀ c p, PySem.W.CodeHd aw.heap c p → PySem.W.CodeHd base c p) → FnOk P w K mg base CX k fa fd [x] sp)
    (F8 : ∀ (s : Shared) (u : Value), BindsTo s fd ⟨[u], []⟩ [(x, u)])
    (kM : ∀ H : Hp, (∀ p ∈ tabs, Tb p H) → (∀ p ∈ lts, H p = some (.lam #[])) → bQ K H a (ns.map V.int) → sp [.ref a] H (fun v H' => v = .bl true ∧ ∀ p ∈ lts, ∃ ps, H' p = some (.lam ps)) fun _ _ _ => False)
    (Ed : ∀ H e s', CX [] H aw (fun _ _ _ => False) e s' → False) :
    codeAny (model P w) callerA (.call (.ref fa) ⟨[.ref a], []⟩) (fun r s' => r = .ok (.ret (.bool true)) ∧ OldK aw.heap s'.heap ∧ s'.os = aw.os ∧ AllBare s'.gens) aw := by
  have rv := oi hi
  have Jk := hi.length
  have iS : a ∉ tabs ++ lts := fun z => by
    have e := (gU a z).1
    rw [ha] at e
    cases e
  have core : ∀ H : Hp, (∀ b u, H b = some u → (b = a ∧ ∃ o xs, u = .eD o (.lst xs)) ∨ (b ∈ tabs ++ lts ∧ (u = .b6 #[] ∧ b ∈ tabs ∨ u = .lam #[] ∧ b ∈ lts))) → (∀ p ∈ tabs, H p = some (.b6 #[])) → (∀ p ∈ lts, H p = some (.lam #[])) → bQ K H a (ns.map V.int) → da P w H aw.heap → (H a ≠ none → K.lookup a = none) →
      codeAny (model P w) callerA (.call (.ref fa) ⟨[.ref a], []⟩) (fun r s' => r = .ok (.ret (.bool true)) ∧ OldK aw.heap s'.heap ∧ s'.os = aw.os ∧ AllBare s'.gens) aw := by
    intro H hO KU KW hS hok hK
    have ko : ∀ {b : Addr} {o : Obj}, aw.heap.get? b = some o → H b = none → (gM aw.heap H).get? b = some o := fun e n => w9 e n
    have no : ∀ {b : Addr} {o : Obj}, aw.heap.get? b = some o → (∀ n, o.data ≠ .seq vs.toArray n) → o ≠ PySem.W.tabObj #[] → H b = none := fun {b o} e d1 d2 => by
      cases q : H b with
      | none => rfl
      | some u =>
        rcases hO b u q with ⟨e', _⟩ | ⟨mr, _⟩
        · subst e'
          rw [ha] at e; cases e
          exact absurd rfl (d1 _)
        · rw [(gU b mr).1] at e
          exact absurd (Option.some.inj e).symm d2
    have KY : ∀ {b : Addr} {o : Obj} {es : Array DictEntry} {ep : Nat}, aw.heap.get? b = some o → o.data = .dict es ep → H b = none := fun {b o es ep} e d => no e (fun n z => by rw [d] at z; cases z) fun z => by rw [z] at d; cases d
    have wm : ∀ {b : Addr} {m : Str → Option Value}, aw.heap.Ns b m → (gM aw.heap H).Ns b m := fun {b m} hS => by obtain ⟨o, es, ep, e, d, r⟩ := hS; exact ⟨o, es, ep, ko e (KY e d), d, r⟩
    have Hz : K.In (gM aw.heap H) := fun b o e => ko (KX b o e) (by
      cases q : H b with
      | none => rfl
      | some u =>
        rcases hO b u q with ⟨e', _⟩ | ⟨mr, _⟩
        · subst e'
          rw [hK (by rw [q]; simp)] at e; cases e
        · have e1 := KX b o e
          have e2 := (gU b mr).1
          rw [e1] at e2
          have e3 : o = PySem.W.tabObj #[] := Option.some.inj e2
          have q2 := List.all_eq_true.mp wk (b, o) (PySem.W.kb_mem e)
          simp only [Bool.or_eq_true, decide_eq_true_eq, beq_iff_eq] at q2
          rcases q2 with (q2 | q2) | q2
          · rw [e3] at q2; exact absurd rfl q2
          · obtain ⟨mc, ⟨oc, es, ep, ho, hd, _⟩, _⟩ := Ec
            rw [← q2, e1] at ho
            cases ho
            rw [e3] at hd; cases hd
          · obtain ⟨oc, es, ep, ho, hd, _⟩ := id lW
            rw [← q2, e1] at ho
            cases ho
            rw [e3] at hd; cases hd)
    have hM : Mod K mg (gM aw.heap H) := ⟨Hz, wm lW, ⟨mb, wm hb, KS⟩, let ⟨mc, h1, h2⟩ := Ec; ⟨mc, wm h1, h2⟩⟩
    have hB : ∃ bm ob, BMod (gM aw.heap H) mainGlobals mg bm ob := by
      obtain ⟨bm, ob, B⟩ := ig
      exact ⟨bm, ob, wm B.ns, B.name, B.ne, ko B.obj (no B.obj (fun n z => by rw [B.data] at z; cases z) fun z => by have := B.data; rw [z] at this; cases this), B.cls, B.dict, B.data⟩
    have hC : ∀ c p, PySem.W.CodeHd aw.heap c p → PySem.W.CodeHd (gM aw.heap H) c p := fun c p ⟨o, vK, file, tf, flags, tg, KZ, text, tt, e1, e2, e3, r⟩ =>
      ⟨o, vK, file, tf, flags, tg, KZ, text, tt, ko e1 (no e1 (fun n z => by rw [e3] at z; cases z) fun z => by rw [z] at e2; cases e2), e2, e3, r⟩
    have e0 : tF P w K mg (gM aw.heap H) callerA [] aw H := ⟨rfl, hM, fun b o e => z7 e, Nat.le_of_eq (uK _ _), trivial, fun b hb => absurd (show b ∈ ([] : List Addr) from hb) (by simp), hok, .of_eq hg⟩
    refine codeAny_mono ((F _ Hz (wm lW) hB hC).run callerA [] aw H ⟨[.ref a], []⟩ [.ref a] [.ref a] _ _ hr e0 (F8 aw (.ref a)) (.cons rfl .nil) (kM H (fun p hp => ⟨#[], KU p hp, trivial⟩) KW hS)) fun r s' h => ?_
    cases r with
    | error e => exact (Ed H e s' h).elim
    | ok fl =>
      cases fl with
      | next => exact False.elim h
      | brk => exact False.elim h
      | cont => exact False.elim h
      | ret u =>
        obtain ⟨v, H', os, bare, un, yi, r', q⟩ := h
        obtain ⟨q', qL⟩ := q
        subst q'
        obtain rfl : u = Value.bool true := r'
        have all : ∀ b o, aw.heap.get? b = some o → asItWas aw.heap s'.heap b o ∧ ∃ o', s'.heap.get? b = some o' := fun b o e => by
          cases q : H b with
          | none =>
            have := un.keep b o e q (by intro z; exact absurd (show b ∈ ([] : List Addr) from z) (by simp)) (by simp)
            exact ⟨.inl this, _, this⟩
          | some u =>
            rcases hO b u q with ⟨_, ob, xs, z⟩ | ⟨mr, z⟩
            · subst z
              have z2 := un.frzs b ob _ q
              obtain ⟨e1, _⟩ := hok b _ q
              obtain ⟨e2, _⟩ := yi b _ z2
              rw [e] at e1; cases e1
              exact ⟨.inl e2, _, e2⟩
            · have e2 : ∃ more, s'.heap.get? b = some { cls := .none, data := .fields (#[] ++ more) } := by
                rcases z with ⟨z, _⟩ | ⟨z, zx⟩
                · subst z
                  obtain ⟨more, z2⟩ := un.tbls b #[] q
                  exact ⟨more, yi b _ z2⟩
                · obtain ⟨ps, z2⟩ := qL b zx
                  refine ⟨ps, ?_⟩
                  have := yi b _ z2
                  rw [show (#[] : Array Value) ++ ps = ps by simp]
                  exact this
              obtain ⟨more, e2⟩ := e2
              have e1 := (gU b mr).1
              rw [e] at e1
              obtain rfl : o = PySem.W.tabObj #[] := Option.some.inj e1
              exact ⟨.inr (.inl ⟨(gU b mr).2, rfl, #[], more, rfl, e2⟩), _, e2⟩
        exact ⟨rfl, ⟨fun b o e => (all b o e).1, fun b o e => (all b o e).2⟩, os, bare.1⟩
  have Ee : ∀ p ∈ tabs ++ lts, ∀ H : Hp, ∀ u, (u = .b6 #[] ∧ p ∈ tabs ∨ u = .lam #[] ∧ p ∈ lts) → bt P w H aw.heap p u := fun p hp H u hu => by
    rcases hu with ⟨rfl, _⟩ | ⟨rfl, _⟩ <;> exact (gU p hp).1
  let T : Hp := fun b => if b ∈ lts then some (.lam #[]) else if b ∈ tabs then some (.b6 #[]) else none
  have T1 : ∀ b u, T b = some u → b ∈ tabs ++ lts ∧ (u = .b6 #[] ∧ b ∈ tabs ∨ u = .lam #[] ∧ b ∈ lts) := fun b u z => by
    by_cases h1 : b ∈ lts
    · have z' := (show T b = _ from if_pos h1).symm.trans z
      cases z'
      exact ⟨List.mem_append_right _ h1, .inr ⟨rfl, h1⟩⟩
    · by_cases h2 : b ∈ tabs
      · have z' := (show T b = _ from (if_neg h1).trans (if_pos h2)).symm.trans z
        cases z'
        exact ⟨List.mem_append_left _ h2, .inl ⟨rfl, h2⟩⟩
      · have z' := (show T b = _ from (if_neg h1).trans (if_neg h2)).symm.trans z
        cases z'
  have T2 : ∀ p ∈ tabs, T p = some (.b6 #[]) := fun p hp => (if_neg (Jj p hp)).trans (if_pos hp)
  have T3 : ∀ p ∈ lts, T p = some (.lam #[]) := fun p hp => if_pos hp
  have Ta : T a = none := (if_neg fun z => iS (List.mem_append_right _ z)).trans (if_neg fun z => iS (List.mem_append_left _ z))
  cases hk : K.lookup a with
  | some o =>
    have e := KX a o hk
    rw [ha] at e
    cases e
    exact core T (fun b u z => .inr (T1 b u z)) T2 T3 (.inr ⟨_, vs.toArray, _, hk, rfl, rfl, rfl, by rw [List.size_toArray, Jk]; exact hl, by simpa using rv⟩) (fun b u z => Ee b (T1 b u z).1 _ u (T1 b u z).2) fun z => absurd Ta z
  | none =>
    have na : ∀ p ∈ tabs ++ lts, p ≠ a := fun p hp z => iS (z ▸ hp)
    refine core (upd T a (.eD { cls := .type "list", data := .seq vs.toArray } (.lst (ns.map V.int)))) (fun b u z => ?_) (fun p hp => by rw [ao (na p (List.mem_append_left _ hp))]; exact T2 p hp) (fun p hp => by rw [ao (na p (List.mem_append_right _ hp))]; exact T3 p hp) (.inl (.inr ⟨_, aP⟩)) (fun b u z => ?_) fun _ => hk
    · by_cases hb : b = a
      · subst hb
        rw [aP] at z
        cases z
        exact .inl ⟨rfl, _, _, rfl⟩
      · rw [ao hb] at z
        exact .inr (T1 b u z)
    · by_cases hb : b = a
      · subst hb
        rw [aP] at z
        cases z
        exact ⟨ha, by rw [List.length_map]; exact hl, vs, _, rv, ha⟩
      · rw [ao hb] at z
        exact Ee b (T1 b u z).1 _ u (T1 b u z).2
noncomputable def pB (K : PySem.W.Frag) (x : Str) : Option Addr := match PySem.W.nsIn K mainGlobals x with
  | some (some (.ref f)) => (match K.lookup f with
    | some ⟨_, _, .func fd, _⟩ => (match fd.code with
      | .ref c => (match K.lookup c with
        | some ⟨_, _, .fields vs, _⟩ => (match vs[11]? with | some (Value.ref p) => some p | _ => none)
        | _ => none)
      | _ => none)
    | _ => none)
  | _ => none
noncomputable abbrev TabOf (mg : Str → Option Value) (h : Heap) (y : Str) (p : Addr) : Prop := ∃ f o fd c, mg y = some (.ref f) ∧ h.get? f = some o ∧ o.data = .func fd ∧ fd.code = .ref c ∧ PySem.W.CodeHd h c p
theorem qH {K : PySem.W.Frag} {mg : Str → Option Value} {h : Heap} {y : Str} {p q : Addr} (X : K.In h) (G : h.Ns mainGlobals mg) (t : TabOf mg h y p) (e : pB K y = some q) : p = q := by
  obtain ⟨f, o, fd, c, e1, e2, e3, e4, oc, vs, _, _, _, _, _, _, _, g1, _, g3, g4, _⟩ := t
  unfold pB at e
  split at e
  · rename_i f' lW
    have := (PySem.W.mg_of X G lW).symm.trans e1
    cases this
    split at e
    · rename_i Hy Mi Kb GU K0
      have := (X _ _ K0).symm.trans e2
      cases this
      cases e3
      rw [e4] at e
      dsimp only at e
      split at e
      · rename_i a1 a2 vK a3 K1
        have := (X _ _ K1).symm.trans g1
        cases this
        cases g3
        rw [g4] at e
        cases e
        rfl
      · cases e
    · cases e
  · cases e
noncomputable def nz (K : PySem.W.Frag) (gs ls : List Str) : Bool := gs.all fun x => ls.all fun y => match pB K x, pB K y with | some p, some q => decide (p ≠ q) | _, _ => false
theorem sW {α β : Type} {F : α → β → Prop} {l : List α} {m : List β} (h : Paired F l m) {b : β} (hb : b ∈ m) : ∃ a ∈ l, F a b := by
  induction h with
  | nil => simp at hb
  | cons x t ih =>
    rcases List.mem_cons.mp hb with e | e
    · subst e; exact ⟨_, List.mem_cons_self, x⟩
    · obtain ⟨a, ha, q⟩ := ih e
      exact ⟨a, List.mem_cons_of_mem _ ha, q⟩
theorem yj {K : PySem.W.Frag} {mg : Str → Option Value} {h : Heap} {gs ls : List Str} {tabs lts : List Addr} (X : K.In h) (G : h.Ns mainGlobals mg) (d : nz K gs ls = true) (t1 : Paired (TabOf mg h) gs tabs) (t2 : Paired (TabOf mg h) ls lts) : ∀ p ∈ tabs, p ∉ lts := fun p hp hq => by
  obtain ⟨x, hx, tx⟩ := sW t1 hp
  obtain ⟨y, hy, ty⟩ := sW t2 hq
  have := List.all_eq_true.mp (List.all_eq_true.mp d x hx) y hy
  split at this
  · rename_i p' q' e1 e2
    have a := qH X G tx e1
    have b := qH X G ty e2
    exact (of_decide_eq_true this) (a.symm.trans b)
  · cases this
theorem yk {l : PySem.W.OpenLaw} {n k : Nat} {q : Program} {loose : List Str} {XP : (Str → Option Value) → Heap → Prop} {YP : World → Heap → Prop} {d : DefRec} {K : Params → PySem.W.Frag} {CX : fk} {sp : PySem.W.Frag → List Addr → List Addr → Sp} {x : Str} {jA wo : List Str}
    (hn : l.most = some n) (zL : n ≤ sizeLine) (vo : d.params.defaults = []) (hr : b7 k callerA) (wk : ∀ w : World, PySem.W.kb_classed (K w.params) = true)
    (zM : ∀ y ∈ jA ++ wo, ∃ r ∈ recsOf q, r.name = y) (Ef : ∀ w : World, nz (K w.params) jA wo = true)
    (hY : ∀ (w : World) (h : Heap), YP w h → (K w.params).In h)
    (F : ∀ (w : World) (mg : Str → Option Value) (fa : Addr) (h : Heap) (tabs lts : List Addr), (K w.params).In h → h.Ns mainGlobals mg → mg d.name = some (.ref fa) →
      Paired (TabOf mg h) jA tabs → Paired (TabOf mg h) wo lts →
      ∃ fd : FuncData, (∀ (s : Shared) (u : Value), BindsTo s fd ⟨[u], []⟩ [(x, u)]) ∧
        ∀ base : Heap, (K w.params).In base → base.Ns mainGlobals mg → (∃ bm ob, BMod base mainGlobals mg bm ob) → (∀ c p, PySem.W.CodeHd h c p → PySem.W.CodeHd base c p) → FnOk l.prog w (K w.params) mg base CX k fa fd [x] (sp (K w.params) tabs lts))
    (kM : ∀ (K : PySem.W.Frag) (tabs lts : List Addr) (H : Hp) (a : Addr) (ns : List Int), lts.length = wo.length → ns.length ≤ n → (∀ p ∈ tabs, Tb p H) → (∀ p ∈ lts, H p = some (.lam #[])) → bQ K H a (ns.map V.int) → sp K tabs lts [.ref a] H (fun v H' => v = .bl true ∧ ∀ p ∈ lts, ∃ ps, H' p = some (.lam ps)) fun _ _ _ => False)
    (Ed : ∀ (H : Hp) (s : Shared) (e : Value) (s' : Shared), CX [] H s (fun _ _ _ => False) e s' → False) :
    PySem.W.WalkO q loose XP YP l.row.toRowW d [] (fun f vs => PySem.call f vs) := by
  refine G5.rD hn vo fun w s₀ aw mg mb fa o pm cd doc a vs ns G Y ho hd fx vp xE hints hlen hg => ?_
  have KX := hY w _ Y
  have tb : ∀ jA : List Str, (∀ y ∈ jA, ∃ r ∈ recsOf q, r.name = y) → ∃ tabs, Paired (TabOf mg aw.heap) jA tabs ∧ ∀ p ∈ tabs, aw.heap.get? p = some (PySem.W.tabObj #[]) ∧ isCodeTable aw.heap p := by
    intro jA
    induction jA with
    | nil => intro _; exact ⟨[], .nil, fun p hp => absurd hp (by simp)⟩
    | cons y r ih =>
      intro hm
      obtain ⟨tabs, h1, h2⟩ := ih fun z hz => hm z (List.mem_cons_of_mem _ hz)
      obtain ⟨rr, K2, e⟩ := hm y List.mem_cons_self
      obtain ⟨f, o', fd, c, p, a1, a2, a3, a4, a5, a6⟩ := G.T.tab rr K2
      rw [e] at a1
      refine ⟨p :: tabs, .cons ⟨f, o', fd, c, a1, a2, a3, a4, .of a5 a6⟩ h1, fun z hz => ?_⟩
      rcases List.mem_cons.mp hz with rfl | hz
      · exact ⟨a6.2, a6.isCodeTable⟩
      · exact h2 z hz
  obtain ⟨tabs, t1, t2⟩ := tb jA fun y hy => zM y (List.mem_append_left _ hy)
  obtain ⟨lts, u1, u2⟩ := tb wo fun y hy => zM y (List.mem_append_right _ hy)
  obtain ⟨fd, hb, hF⟩ := F w mg fa _ tabs lts KX G.T.g vp t1 u1
  exact wj (lts := lts) KX G.T.g G.T.b G.T.builtins G.T.nolimit hg xE hints (Nat.le_trans hlen zL) hr (fun p hp => (List.mem_append.mp hp).elim (t2 p) (u2 p)) (yj KX G.T.g (Ef w) t1 u1) (wk w) (PySem.W.bmod_of_top G.T) hF hb (fun H hO hL hS => kM _ tabs lts H a ns (Paired.length u1).symm hlen hO hL hS) fun H e s' => Ed H aw e s'
noncomputable abbrev j0 (K : PySem.W.Frag) (x : Str) (st : Stmt) (dv : Value) : Prop :=
  ∃ (f : Addr) (oc : Value) (od : Option Addr) (sl : Array (Option Value)) (T : Addr) (oT : Obj) (nT : Nat) (kV dc pm : Value) (an : Option Addr) (cd ct : Value),
    PySem.W.nsIn K mainGlobals x = some (some (.ref f)) ∧ K.lookup f = some ⟨oc, od, .func (PySem.W.fnOf x x (cf st) (bB st) (ak st) (.ref T) kV dc pm an cd ct), sl⟩ ∧ PySem.W.codeIn K cd x = true ∧ PySem.W.keepIn K (.ref f) = true ∧ K.lookup T = some oT ∧ oT.data = .seq #[dv] nT
theorem wq {K : PySem.W.Frag} {x : Str} {st : Stmt} {dv : Value} {f : Addr} {oc : Value} {od : Option Addr} {sl : Array (Option Value)} {T : Addr} {oT : Obj} {nT : Nat} {kV dc pm : Value} {an : Option Addr} {cd ct : Value} (a : PySem.W.nsIn K mainGlobals x = some (some (.ref f)))
    (l : K.lookup f = some ⟨oc, od, .func (PySem.W.fnOf x x (cf st) (bB st) (ak st) (.ref T) kV dc pm an cd ct), sl⟩) (c : PySem.W.codeIn K cd x = true) (k : PySem.W.keepIn K (.ref f) = true) (t : K.lookup T = some oT) (u : oT.data = .seq #[dv] nT) : j0 K x st dv := ⟨f, oc, od, sl, T, oT, nT, kV, dc, pm, an, cd, ct, a, l, c, k, t, u⟩
theorem j0.df {K : PySem.W.Frag} {mg : Str → Option Value} {h : Heap} {x : Str} {st : Stmt} {dv : Value} (d : j0 K x st dv) (X : K.In h) (G : h.Ns mainGlobals mg) (ps : List Str)
    (hb : ∀ (T : Addr) (kV doc pm : Value) (an : Option Addr) (b8 ct : Value) (us : List Value), us.length + 1 = ps.length → ∃ k, bindArgs (PySem.W.fnOf x x (cf st) (bB st) (ak st) (.ref T) kV doc pm an b8 ct) ⟨us, []⟩ = seqItems? (.ref T) >>= k ∧ k (some #[dv]) = pure (ps.zip (us ++ [dv])))
    (zA : ∀ (T : Addr) (kV doc pm : Value) (an : Option Addr) (b8 ct : Value) (us : List Value), us.length = ps.length → ∃ k, bindArgs (PySem.W.fnOf x x (cf st) (bB st) (ak st) (.ref T) kV doc pm an b8 ct) ⟨us, []⟩ = seqItems? (.ref T) >>= k ∧ k (some #[dv]) = pure (ps.zip us)) :
    ∃ f fd, KQ K mg x st ps [dv] f fd := by
  obtain ⟨f, oc, od, sl, T, oT, nT, kV, dc, pm, an, cd, ct, a, l, c, k, t, u⟩ := d
  refine ⟨f, _, ⟨oc, od, .ref T, kV, dc, pm, an, cd, ct, sl, rfl, l, c⟩, k, fun s us hK hl => ?_, fun s us hK hl => ?_, PySem.W.mg_of X G a⟩
  · obtain ⟨kk, h1, h2⟩ := hb T kV dc pm an cd ct us (by rw [List.length_append] at hl; exact hl)
    exact PySem.W.binds_K hK rfl t u h1 h2
  · rw [List.append_nil] at hl ⊢
    obtain ⟨kk, h1, h2⟩ := zA T kV dc pm an cd ct us hl
    exact PySem.W.binds_K hK rfl t u h1 h2
theorem yl {K : PySem.W.Frag} {tabs lts : List Addr} {qs : List Str} {H : Hp} {a : Addr} {ns : List Int} (hl : lts.length = qs.length) (hn : ns.length ≤ 63) (hT : ∀ p ∈ tabs, Tb p H) (hL : ∀ p ∈ lts, H p = some (.lam #[])) (hS : bQ K H a (ns.map V.int)) :
    spLaw K ⟨tabs, lts.zip qs⟩ [.ref a] H (fun v H' => v = .bl true ∧ ∀ p ∈ lts, ∃ ps, H' p = some (.lam ps)) fun _ _ _ => False :=
  ⟨a, ns, rfl, hS, hn, hT, fun p hp => ⟨#[], hL p.1 (List.of_mem_zip hp).1, trivial, fun pos cv e => nomatch e⟩, fun H' h => ⟨rfl, fun p hp => by
    obtain ⟨i, hi⟩ := List.mem_iff_getElem?.mp hp
    have h1 := (List.getElem?_eq_some_iff.mp hi).1
    exact h (p, qs[i]) (List.mem_of_getElem? (i := i) (List.getElem?_zip_eq_some.mpr ⟨hi, List.getElem?_eq_getElem (by omega)⟩))⟩⟩
theorem wt {K : PySem.W.Frag} {x : Str} {st : Stmt} {i : Int} {tk : Tok} {f : Addr} {oc : Value} {od : Option Addr} {sl : Array (Option Value)} {T : Addr} {oT : Obj} {nT : Nat} {kV dc pm : Value} {an : Option Addr} {cd ct : Value} (a : PySem.W.nsIn K mainGlobals x = some (some (.ref f)))
    (l : K.lookup f = some ⟨oc, od, .func (PySem.W.fnOf x x (cf st) (bB st) (ak st) (.ref T) kV dc pm an cd ct), sl⟩) (c : PySem.W.codeIn K cd x = true) (k : PySem.W.keepIn K (.ref f) = true) (t : K.lookup T = some oT) (u : oT.data = .seq #[.int i tk] nT) : ∃ tk, j0 K x st (.int i tk) := ⟨tk, wq a l c k t u⟩
end L2
namespace L2
open PySem PySem.Spec PySem.W PyProof.Rows
theorem ym : fillsNumberSlot (.type "tuple") "mul" = pure false :=
  PySem.fillsNumberSlot_seq (r := some (.builtin "tuple.__rmul__")) F.slot_tuple_mul.lookup (by decide +kernel) F.slot_tuple_rmul.lookup (by decide +kernel)
theorem F9 : seqRepeat? (.type "tuple") = pure (some (.builtin "tuple.__mul__")) := by
  unfold seqRepeat?
  rw [PySem.seqSlot_of (T := "tuple") (name := "__mul__") (id := "tuple.__mul__") F.slot_tuple_mul.lookup (by decide +kernel), PySem.seqSlot_of (T := "tuple") (name := "__rmul__") (id := "tuple.__rmul__") F.slot_tuple_rmul.lookup (by decide +kernel)]
  rfl
theorem Ga (a : Int) (t : Tok) (l : Addr) (items : Array Value) (n : Nat) (sl : Array (Option Value)) :
    Meets (Builtin.«int.__rmul__» ⟨[.int a t, .ref l], []⟩) (fun _ R s => s.heap.get? l = some { cls := .type "tuple", dict := none, data := .seq items n, slots := sl } ∧ R (.ok (.ret Value.notImplemented)) s) :=
  .of_wp fun prog w A R s h => by obtain ⟨hp, g, d, tk, os⟩ := s; obtain ⟨hl, h⟩ := h; wp_walk; exact ⟨_, rfl, h⟩
theorem oC (its : List Value) (m : Nat) : List.foldl (fun x1 x2 => x1 ++ x2) #[] (List.replicate m its.toArray) = (List.replicate m its).flatten.toArray := by
  have := foldl_rep its m []
  rw [List.nil_append] at this
  exact this
theorem Jl (l : Addr) (its : List Value) (n : Nat) (sl : Array (Option Value)) (x : Int) (u : Tok) (h1 : 2 ≤ x) (h2 : x < 1000) (iQ : its ≠ []) (hz : its.length * x.toNat ≤ 10000) :
    Meets (Builtin.«tuple.__mul__» ⟨[.ref l, .int x u], []⟩) (fun _ R s => s.heap.get? l = some { cls := .type "tuple", dict := none, data := .seq its.toArray n, slots := sl } ∧
      R (.ok (.ret (Value.ref s.heap.objs.size))) { s with heap := s.heap.push { cls := Value.type "tuple", data := Data.seq (List.replicate x.toNat its).flatten.toArray }, toks := s.toks }) :=
  .of_wp fun prog w A R s h => by
    obtain ⟨hp, g, d, tk, os⟩ := s; obtain ⟨hl, h⟩ := h
    have f1 := PySem.AutoSeq1.idx_int
    have hs : its.toArray.size = its.length := by simp
    have zL : its.toArray.isEmpty = false := by cases its with | nil => exact absurd rfl iQ | cons a b => rfl
    have e : ((its.length * x.toNat : Nat) : Int) = (its.toArray.size : Int) * x := by rw [hs, Int.natCast_mul, Int.toNat_of_nonneg (by omega)]
    have c0 : ¬ (decide (x < -(2 ^ 63)) || decide (x ≥ 2 ^ 63)) = true := by simp; omega
    have c1 : ¬ (its.toArray.isEmpty || x == 1) = true := by rw [zL]; simp; omega
    have c2 : ¬ (decide (x ≤ 0) || its.toArray.isEmpty) = true := by rw [zL]; simp; omega
    have c3 : ¬ (its.toArray.size : Int) * x > (2 ^ 63 - 1) / 8 := by rw [← e]; omega
    have c4 : ¬ Builtin.Tuple.tupleTooMany ((its.toArray.size : Int) * x) = true := by rw [← e]; unfold Builtin.Tuple.tupleTooMany; simp only [decide_eq_true_eq, show sizeLine = 16777216 from rfl]; omega
    have c5 : ¬ (List.foldl (fun x1 x2 => x1 ++ x2) #[] (List.replicate x.toNat its.toArray)).size > sizeLine := by
      rw [oC, List.size_toArray, len_rep, Nat.mul_comm, show sizeLine = 16777216 from rfl]; omega
    wp_walk using wpAny_loadPart' hl
    rw [if_neg c0]
    wp_walk using wpAny_loadPart' hl
    rw [if_neg c1]
    wp_walk using wpAny_loadPart' hl
    rw [if_neg c2]
    wp_walk using wpAny_loadPart' hl
    rw [if_neg c3]
    wp_walk using wpAny_loadPart' hl
    rw [if_neg c4]
    wp_walk using wpAny_loadPart' hl
    rw [oC]
    exact ⟨_, rfl, h⟩
section
variable {X : Cx} {Γ : Gz} {K : PySem.W.Frag}
noncomputable def Gb : R2 := fun x y H Q => ∃ l k xs, x = .ref l ∧ y = .int k ∧ H l = some (.tup xs) ∧ xs ≠ [] ∧ 2 ≤ k ∧ k < 1000 ∧ xs.length * k.toNat ≤ 10000 ∧ ∀ p, H p = none → Q (.ref p) (upd H p (.tup (List.replicate k.toNat xs).flatten))
theorem AZ : OpR X (binaryOp .Mult) Gb := by
  intro pins s σ H x y v u Q I rx ry h
  obtain ⟨l, k, xs, rfl, rfl, hH, iQ, h1, h2, hz, q⟩ := h
  cases rx
  obtain ⟨t, rfl⟩ := ry
  obtain ⟨z, its, r, o, e, c, n, d, hd⟩ := I.hok l _ hH
  obtain ⟨oc, od, LD, gv⟩ := o
  simp only at c d hd
  subst c d hd
  have hl := r.length
  refine wpAny_binaryOp_repeat_ref (T := "tuple") (U := "int") (by decide) ⟨_, e, rfl⟩ (fun s' => typeIs_int s' k t) ym F.fills_int_mul F.slot_int_rmul F9 F.slot_int_index.lookup
    (call_meets F.slot_int_rmul (typeIs_int s k t) F.entry_int_rmul (F.args_int_rmul_2 _ _) (Ga k t l its.toArray n gv)
      ⟨e, rfl, ⟨_, e, rfl⟩, call_meets F.slot_tuple_mul ⟨_, e, rfl⟩ F.entry_tuple_mul (F.args_tuple_mul_2 _ _) (Jl l its n gv k t h1 h2 (fun w => iQ (r.iP.mp w)) (by rw [← hl]; exact hz)) ⟨e, ?_⟩⟩)
  refine ⟨.ref s.heap.objs.size, _, I.laid (t' := s.toks) (o := .tup (List.replicate k.toNat xs).flatten) (fun b ob q => Heap.get?_push_of_some _ q) (Nat.le_refl _) ?_, rfl, q _ (I.hok.fresh (Nat.le_refl _))⟩
  exact ⟨by rw [len_rep, Nat.mul_comm, show sizeLine = 16777216 from rfl]; omega, _, r.rep k.toNat, gm.new _ _⟩
noncomputable def zRepT : cC := fun d e M Q => match d, e with | .tup ds, .int k => (ds ≠ [] ∧ 2 ≤ k ∧ k < 1000 ∧ ds.length * k.toNat ≤ 10000) ∧ Q (.tup (List.replicate k.toNat ds).flatten) M | _, _ => False
theorem aT.rep {β : Bz} {M : Mh} {H : Hp} {vs : List V} {ds : List Dv} (r : aT β M H vs ds) : ∀ k : Nat, aT β M H (List.replicate k vs).flatten (List.replicate k ds).flatten
  | 0 => ⟨rfl, fun i v d h => by simp at h⟩
  | k + 1 => by rw [List.replicate_succ, List.replicate_succ, List.flatten_cons, List.flatten_cons]; exact r.append (aT.rep r k)
theorem Eg : eH Γ X (binaryOp .Mult) zRepT := ⟨_, AZ, fun β x y d e M H Q Q' _ _ _ m rx ry z q => by
  unfold zRepT at z
  split at z
  · rename_i ds k
    obtain ⟨a, vs, rfl, f, ha, rs⟩ := cR rx
    obtain ⟨⟨z0, z1, z2, z3⟩, z4⟩ := z
    refine ⟨a, _, vs, rfl, aO ry, ha, fun w => z0 (by have := rs.len; rw [w] at this; exact List.eq_nil_of_length_eq_zero this.symm), z1, z2, by rw [rs.len]; exact z3, fun p hp => ?_⟩
    have x2 := Ex.lay m hp (.tup (List.replicate k.toNat vs).flatten)
    exact q _ _ _ _ x2 (fD (m.fz hp) aP ((rs.rep _).ex x2)) z4
  · exact z.elim⟩
noncomputable def zRepL : cC := fun d e M Q => match d, e with | .lst ds, .int k => (-(2 ^ 63) ≤ k ∧ k < 2 ^ 63 ∧ ds.length * k.toNat ≤ sizeLine) ∧ Q (.lst (List.replicate k.toNat ds).flatten) M | _, _ => False
noncomputable def zCatLD : cC := fun d e M Q => match d, e with | .lst ds, .lst es => ds.length + es.length ≤ sizeLine ∧ Q (.lst (ds ++ es)) M | _, _ => False
theorem Eh (hK : X.K = K) : eH Γ X (binaryOp .Add) zCatLD := ⟨_, C2, fun β x y d e M H Q Q' _ _ _ m rx ry z q => by
  unfold zCatLD at z
  split at z
  · obtain ⟨a, vs, rfl, f, ha, rs⟩ := fo rx
    obtain ⟨b, us, rfl, f2, hb, c9⟩ := fo ry
    refine ⟨a, b, vs, us, rfl, rfl, ha, hb, by rw [rs.len, c9.len]; exact z.1, fun p hp => ?_⟩
    have x2 := Ex.lay m hp (.lst (vs ++ us))
    exact q _ _ _ _ x2 (mw (m.fz hp) aP ((rs.append c9).ex x2)) z.2
  · exact z.elim⟩
noncomputable def zMulS : cC := fun d e M Q => match d, e with | .str z, .int n => MulOk z n ∧ Q (.str (Txt.mul z n)) M | _, _ => False
open Classical in
noncomputable def zLenT (d : Dv) (M : Mh) (Q : ZK) : Prop := match nowK M d with | .dt ks _ => Q (.int ks.length) M | _ => False
end
end L2
namespace L2
open PySem PySem.Spec PyProof.Rows
noncomputable def nA : Key → Dv
  | .inl i => .int i
  | .inr z => .str z
noncomputable def ziKeys (p : aE) : dF := fun ρ M R => p ρ M fun d M1 => match d with | .dk ks _ => R (ks.map nA) M1 | .dt ks _ => R (ks.map fun k => .tup (k.map nA)) M1 | _ => False
section
variable {X : Cx} {Γ : Gz} {β : Bz} {M : Mh} {H : Hp} {tg l : Expr} {p : aE}
noncomputable def ziItems (p : aE) : dF := fun ρ M R => p ρ M fun d M1 => match d with | .dk ks ds => R (g5 (ks.map nA) ds) M1 | .dt ks ds => R (g5 (ks.map fun k => .tup (k.map nA)) ds) M1 | _ => False
end
section
variable {Γ : Gz} {X : Cx} {K : PySem.W.Frag}
noncomputable def zCatLP : cC := fun d e M Q => match d, e with | .lst ds, .lst es => ds.length + es.length ≤ sizeLine ∧ ∀ a, M a = none → Q (.ptr a) (az M a (.lst (ds ++ es))) | _, _ => False
noncomputable def zClear : jD := fun d ds M Q => match d, ds with | .ptr a, [] => (match M a with | some (.lst _) => Q .aC (az M a (.lst [])) | _ => False) | _, _ => False
end
theorem jk {g : cm} {te : aE} (J : List Dv → aA → Mh → Prop) : ∀ {ds acc : List Dv} {τ : aA} {M : Mh} {Q : List Dv → Mh → Prop}, J acc τ M →
    (∀ i d gS τ M, ds[i]? = some d → gS.length = acc.length + i → J gS τ M → ∀ R : aA → ZK, (∀ y aF M2, J (gS ++ [y]) aF M2 → R aF y M2) → g d τ M fun aF M2 => te aF M2 (R aF)) →
    (∀ ys τ M, ys.length = ds.length → J (acc ++ ys) τ M → Q ys M) → fc g zNoIf te ds τ M Q
  | [], acc, τ, M, Q, j, _, q => q [] τ M rfl (by rw [List.append_nil]; exact j)
  | d :: ds, acc, τ, M, Q, j, h, q => by
    refine h 0 d acc τ M rfl rfl j (fun aF y M4 => fc g zNoIf te ds aF M4 fun ys M5 => Q (y :: ys) M5) fun y aF M2 j2 => ?_
    refine jk J (acc := acc ++ [y]) j2 (fun i d' gS cy M' e1 e2 j' R hR => ?_) fun ys kU M3 e3 j3 => ?_
    · exact h (i + 1) d' gS cy M' e1 (by rw [e2, List.length_append]; simp; omega) j' R hR
    · exact q (y :: ys) kU M3 (by simp [e3]) (by rw [List.append_assoc] at j3; exact j3)
theorem zN {a1 r : bA} {D : eR} {ρ : aA} {M : Mh} (I : aA → Mh → Prop) (h1 : ∀ N : aA → Mh → Prop, (∀ ρ M, I ρ M → N ρ M) → a1 { D with nx := N } ρ M) (h2 : ∀ ρ M, I ρ M → r D ρ M) : (zSeq a1 r) D ρ M := h1 _ h2
theorem Gd {a1 a2 r : bA} {D : eR} {ρ : aA} {M : Mh} (I : aA → Mh → Prop) (h1 : ∀ N : aA → Mh → Prop, (∀ ρ M, I ρ M → N ρ M) → (zSeq a1 a2) { D with nx := N } ρ M) (h2 : ∀ ρ M, I ρ M → r D ρ M) : (zSeq a1 (zSeq a2 r)) D ρ M := h1 _ h2
theorem Ge {a1 a2 a3 r : bA} {D : eR} {ρ : aA} {M : Mh} (I : aA → Mh → Prop) (h1 : ∀ N : aA → Mh → Prop, (∀ ρ M, I ρ M → N ρ M) → (zSeq a1 (zSeq a2 a3)) { D with nx := N } ρ M) (h2 : ∀ ρ M, I ρ M → r D ρ M) : (zSeq a1 (zSeq a2 (zSeq a3 r))) D ρ M := h1 _ h2
theorem Gf {a1 a2 a3 a4 r : bA} {D : eR} {ρ : aA} {M : Mh} (I : aA → Mh → Prop) (h1 : ∀ N : aA → Mh → Prop, (∀ ρ M, I ρ M → N ρ M) → (zSeq a1 (zSeq a2 (zSeq a3 a4))) { D with nx := N } ρ M) (h2 : ∀ ρ M, I ρ M → r D ρ M) : (zSeq a1 (zSeq a2 (zSeq a3 (zSeq a4 r)))) D ρ M := h1 _ h2
theorem Gg {a1 a2 a3 a4 a5 r : bA} {D : eR} {ρ : aA} {M : Mh} (I : aA → Mh → Prop) (h1 : ∀ N : aA → Mh → Prop, (∀ ρ M, I ρ M → N ρ M) → (zSeq a1 (zSeq a2 (zSeq a3 (zSeq a4 a5)))) { D with nx := N } ρ M) (h2 : ∀ ρ M, I ρ M → r D ρ M) : (zSeq a1 (zSeq a2 (zSeq a3 (zSeq a4 (zSeq a5 r))))) D ρ M := h1 _ h2
section
variable {β : Bz} {M M' : Mh} {H H' : Hp} {a : Addr} {o o' o2 kY : Mo}
theorem Rz.dom (hd : ∀ a, (M a).isSome = (M' a).isSome) {v : V} {d : Dv} (r : Rz β M H v d) : Rz β M' H v d :=
  r.kn (M0 := M') (fun a h => by rw [hd a]; exact h) (r.pin.mono fun a h => by rw [← hd a]; exact h)
theorem gz.dom (hd : ∀ a, (M a).isSome = (M' a).isSome) (h : gz β M H a o) : gz β M' H a o := by
  cases o with
  | lst ds => obtain ⟨vs, h1, rs⟩ := h; exact ⟨vs, h1, rs.len, fun i v d x y => (rs.at' i v d x y).dom hd⟩
  | cQ => exact h
  | dk ks ds => obtain ⟨vs, h1, h2, rs⟩ := h; exact ⟨vs, h1, h2, rs.len, fun i v d x y => (rs.at' i v d x y).dom hd⟩
  | dt ks ds => obtain ⟨vs, h1, h2, rs⟩ := h; exact ⟨vs, h1, h2, rs.len, fun i v d x y => (rs.at' i v d x y).dom hd⟩
theorem gH (M : Mh) (a : Addr) (o o2 : Mo) (b : Addr) : (az M a o b).isSome = (az M a o2 b).isSome := by
  by_cases e : b = a
  · subst e; rw [updM_same, updM_same]; rfl
  · rw [aq e, aq e]
theorem ir {b : Addr} (o2 : Mo) (h : az M a o b = none) : az M a o2 b = none := by
  by_cases e : b = a
  · subst e; rw [updM_same] at h; cases h
  · rw [aq e] at h ⊢; exact h
theorem Mz.chg (m : Mz β (az M a o) H) (h2 : gz β (az M a o2) H a o2) : Mz β (az M a o2) H := by
  refine ⟨fun b u e => ?_, m.tabs, m.hids, fun b u e => ?_, m.lams⟩
  · by_cases z : b = a
    · subst z; rw [updM_same] at e; cases e; exact h2
    · rw [aq z] at e
      exact gz.dom (gH M a o o2) (m.obj b u (by rw [aq z]; exact e))
  · by_cases z : b = a
    · subst z; exact m.apart b o updM_same
    · rw [aq z] at e
      exact m.apart b u (by rw [aq z]; exact e)
theorem sX (h : M a = some o) : az M a o = M := by
  funext b
  by_cases e : b = a
  · subst e; rw [updM_same, h]
  · rw [aq e]
theorem Ex.chg (x : Ex β (az M a o) H (az M a o') H') (h2 : gz β (az M a kY) H' a kY) : Ex β (az M a o2) H (az M a kY) H' :=
  ⟨⟨fun b u h e => x.keep b u (ir o h) e, fun b h => by rw [gH M a kY o']; exact x.dom b (by rw [gH M a o o2]; exact h), fun b u h e => ir kY (x.new b u (ir o h) e)⟩, x.mz.chg h2⟩
theorem Ex.sealed (hn : M a = none) (x : Ex β M H (az M a o') H') (h2 : gz β (az M a kY) H' a kY) : Ex β M H (az M a kY) H' :=
  ⟨⟨x.keep, fun b h => by rw [gH M a kY o']; exact x.dom b h, fun b u h e => ir kY (x.new b u h e)⟩, x.mz.chg h2⟩
theorem wu {c m : Int} (z : Mz β (az M a (.lst [.int c, .int m])) H) (hc : 0 ≤ c) (hm : 0 ≤ m) : gz β (az M a .cQ) H a .cQ := by
  obtain ⟨vs, h, rs⟩ := z.obj a _ updM_same
  refine ⟨c, m, ?_, hc, hm⟩
  have := lu (ns := [c, m]) rs
  rw [h, this]
  rfl
theorem Ei (z : Mz β (az M a .cQ) H) : ∃ c m : Int, 0 ≤ c ∧ 0 ≤ m ∧ gz β (az M a (.lst [.int c, .int m])) H a (.lst [.int c, .int m]) := by
  obtain ⟨c, m, h, hc, hm⟩ := z.obj a _ updM_same
  exact ⟨c, m, hc, hm, _, h, qD (ns := [c, m])⟩
end
section
variable {X : Cx} {Γ : Gz} {K : PySem.W.Frag}
noncomputable def zIxS : cC := fun d e M Q => match d, e with | .bp ns, .int i => (match cB ns i with | some x => Q (.int x) M | none => False) | _, _ => False
theorem zO (hK : X.K = K) (hG : K = Γ.K) : DZ Γ X zIxS := ⟨_, sF hK, fun β x y d e M H Q Q' _ _ eK m rx ry z q => by
  unfold zIxS at z
  split at z
  · rename_i ns i
    split at z
    · rename_i v hv
      obtain ⟨a, rfl, hS⟩ := oA rx
      rw [eK, ← hG] at hS
      exact .inl ⟨a, _, i, .int v, rfl, aO ry, hS, AY hv, q _ _ _ _ (.refl m) (.int _) z⟩
    · exact z.elim
  · exact z.elim⟩
end
noncomputable def K3 (k : Nat) : Str := ⟨#[97 + k]⟩
section
variable {κ : Type} [DecidableEq κ]
noncomputable def Jm (step : κ → Nat → κ) (met : κ) (w : Str) (st : List κ × List Str) (a : Nat) : List κ × List Str := if step met a ∈ st.1 then st else (st.1 ++ [step met a], st.2 ++ [w ++ K3 a])
noncomputable def visit (step : κ → Nat → κ) (met : κ) (w : Str) (n : Nat) (st : List κ × List Str) : List κ × List Str := (List.range n).foldl (Jm step met w) st
noncomputable def HA (step : κ → Nat → κ) (n most : Nat) : Nat → Nat → List κ × List Str → List κ × List Str
  | 0, _, st => st
  | fuel + 1, i, st => match st.1[i]?, st.2[i]? with
    | some met, some w => if st.1.length ≤ most then HA step n most fuel (i + 1) (visit step met w n st) else st
    | _, _ => st
noncomputable def met (step : κ → Nat → κ) (n most N : Nat) (s : κ) : List κ × List Str := HA step n most (N + 1) 0 ([s], [""])
end
section
variable {X : Cx} {Γ : Gz}
variable {K : PySem.W.Frag}
noncomputable def keysL : Dv → Option (List Dv)
  | .dk ks _ => some (ks.map nA)
  | .dt ks _ => some (ks.map fun k => .tup (k.map nA))
  | _ => none
noncomputable def zListDP (d : Dv) (M : Mh) (Q : ZK) : Prop := match keysL d with | some ys => ys.length ≤ sizeLine ∧ ∀ a, M a = none → Q (.ptr a) (az M a (.lst ys)) | none => False
end
section
variable {X : Cx} {Γ : Gz}
noncomputable def zRepP : cC := fun d e M Q => match d, e with | .lst ds, .int k => (-(2 ^ 63) ≤ k ∧ k < 2 ^ 63 ∧ ds.length * k.toNat ≤ sizeLine) ∧ ∀ a, M a = none → Q (.ptr a) (az M a (.lst (List.replicate k.toNat ds).flatten)) | _, _ => False
theorem Ej : eH Γ X (binaryOp .Mult) zRepP := ⟨_, C3, fun β x y d e M H Q Q' _ _ _ m rx ry z q => by
  unfold zRepP at z
  split at z
  · rename_i ds k
    obtain ⟨a, vs, rfl, f, ha, rs⟩ := fo rx
    obtain ⟨⟨z1, z2, z3⟩, z4⟩ := z
    refine ⟨a, _, vs, rfl, aO ry, ha, z1, z2, by rw [rs.len]; exact z3, fun p hp => ?_⟩
    have x2 := Ex.own m (.inr hp) (rs.rep k.toNat)
    exact q _ _ _ _ x2 (.ptr (by rw [updM_same]; rfl)) (z4 p (m.free hp))
  · exact z.elim⟩
end
noncomputable def zMinL (d : Dv) (M : Mh) (Q : ZK) : Prop := match (itemsM M d).bind dq with | some ns => 0 < ns.length ∧ (∀ t, d ≠ .tup t) ∧ ∀ m : Int, m ∈ ns → (∀ a ∈ ns, m ≤ a) → Q (.int m) M | none => False
noncomputable def zMaxL (d : Dv) (M : Mh) (Q : ZK) : Prop := match (itemsM M d).bind dq with | some ns => 0 < ns.length ∧ (∀ t, d ≠ .tup t) ∧ ∀ m : Int, m ∈ ns → (∀ a ∈ ns, a ≤ m) → Q (.int m) M | none => False
end L2
namespace L2
open PySem PySem.Spec PySem.W PyProof.Rows
theorem qI (a b : Expr) (p : Pos) (args : List Expr) (keywords : List Keyword) (pos : Pos) (env : Env) : eval (.Call (.Subscript a b p) args keywords pos) env = (do
    callWith pos (← eval (.Subscript a b p) env) [] (backTo pos (starEach args env)) (backToKw pos (keywordEach keywords env))) := rfl
section
variable {X : Cx} {CX : fk} {E : XK} {p pos : Pos} {a b e : Expr} {es : List Expr} {t : TA} {tf : TE} {sp : Sp} {good : Addr → Prop} {k : Nat}
noncomputable def fW (P : Program) (w : World) (K : PySem.W.Frag) (mg : Str → Option Value) (base : Heap) (CX : fk) (k : Nat) (sp : Sp) (good : Addr → Prop) : Prop := ∀ f, good f → ∃ (fd : FuncData) (ps : List Str), FnOk P w K mg base CX k f fd ps sp ∧ PySem.W.keepIn K (.ref f) = true ∧ Binds K fd ps []
noncomputable def Ek (good : Addr → Prop) (sp : Sp) (E : XK) (tf : TE) (t : TA) : TE := fun σ H Q => tf σ H fun v H1 => (∃ f, v = .ref f ∧ good f) ∧ t σ H1 fun vs H2 => sp vs H2 Q E
theorem yn (F : fW X.prog X.w X.K X.mg X.base CX k sp good) (hr : b7 k X.A) (hx : Passes CX X E) (hf : PE X (.Subscript a b p) tf) (ha : PA X (e :: es) t)
    (he : starEach (e :: es) X.env = (false, eval e X.env) :: starEach es X.env := by rfl) (fm : (backTo pos (starEach es X.env)).any (·.1) = false := by rfl) :
    PE X (.Call (.Subscript a b p) (e :: es) [] pos) (Ek good sp E tf t) := by
  refine ⟨?_⟩
  intro pins s σ H Q I h
  rw [qI]
  refine wpAny_bind (thn (hf pins s σ H _ I h) fun u s1 hq => ?_)
  obtain ⟨v, H1, I1, r, ⟨f, ev, hg⟩, q⟩ := hq
  subst ev
  cases (show u = Value.ref f from r)
  obtain ⟨fd, ps, F, hk, hb⟩ := F f hg
  refine PySem.W.callWith_K (h₀ := X.base) I1.ok.mod.kin hk (thn (ha pos pins s1 σ H1 _ I1 q) fun us s2 K4 => ?_) he fm
  obtain ⟨vs, H2, I2, r2, q2⟩ := K4
  have q' : sp (vs ++ []) H2 Q E := by rw [List.append_nil]; exact q2
  exact ⟨I2.eF, ve F hr hb .nil hx I2 r2 q'⟩
end
section
variable {X : Cx} {Γ : Gz} {CX : fk} {S : dM} {E : XK} {E' : ZX} {p pos : Pos} {a b e : Expr} {es : List Expr} {za : dJ} {pf : aE} {P : Program} {w : World} {tb : eG} {K : PySem.W.Frag} {good : Addr → Prop} {k : Nat}
noncomputable def zCallX (good : Addr → Prop) (S : dM) (E' : ZX) (pf : aE) (za : dJ) : aE := fun ρ M Q => pf ρ M fun d M1 => (∃ f, d = .raw (.ref f) ∧ good f) ∧ za ρ M1 fun ds M2 => S ds M2 Q E'
theorem g7 (F : fW X.prog X.w X.K X.mg X.base CX k (aB P w K tb S) good) (hr : b7 k X.A) (hx : Passes CX X E) (hP : P = Γ.P) (hw : w = Γ.w) (hK : K = Γ.K) (ht : tb = Γ.tb) (hE : XR Γ E' E)
    (hf : QE Γ X (.Subscript a b p) pf) (ha : QA Γ X (e :: es) za) (he : starEach (e :: es) X.env = (false, eval e X.env) :: starEach es X.env := by rfl) (fm : (backTo pos (starEach es X.env)).any (·.1) = false := by rfl) :
    QE Γ X (.Call (.Subscript a b p) (e :: es) [] pos) (zCallX good S E' pf za) := (yn F hr hx hf ha he fm).imp fun σ H Q h => by
  obtain ⟨β, ρ, M, Q', zr, h, q⟩ := h
  subst hP hw hK ht
  refine ⟨β, ρ, M, _, zr, h, fun d M1 v H1 x1 r1 h1 => ?_⟩
  obtain ⟨⟨f, ed, hg⟩, h1⟩ := h1
  subst ed
  refine ⟨⟨f, gf r1, hg⟩, β, ρ, M1, _, zr.step x1, h1, fun ds M2 vs H2 x2 r2 h2 => ?_⟩
  exact ⟨β, ds, M2, Q', E', zr.eP, zr.ew, zr.eK, zr.et, x2.mz, r2, h2, fun d M3 v H3 x3 r3 h3 => q _ _ _ _ (x1.trans (x2.trans x3)) r3 h3, fun C M3 H3 x3 h3 => hE C M3 H3 (qF zr.ent zr.sub zr.eP zr.ew zr.eK zr.et (x1.trans (x2.trans x3))) h3⟩
end
end L2
open PySem L2 PyProof.Rows
local macro_rules | `(tactic| simp! only [$xs,*] $[$l]?) => `(tactic| simp only [zVar, zMaxL, zC, zOp, zII, zIC, zEq, zNe, scalZ, zIs, zIsN, isNonD, zSS, zTest, zBool, zChain, zAnd, zOr, zNot, zAndV, zOrV, zNotV, zIfE, zNil, zCons, zTup, zLst, zLstP, zCB, z1, zLenD, z2I, zAbs, zDivmod, zInt, zList, zListP, zTuple, zSorted, zSet, zLenS, intsM, itemsM, zIsInst, isD, zBM, tyZ, zAppend, zExtend, zPop, zPopAt, zIndexS, zCount, zSum, zReverse, zSetI, zgSub, zNext, zSeq, zDrop, zRet, zRetN, zIfS, zgName, zgNil, zgCons, zgTup, zAsg, zFor, zForM, zComp, zCompP, zTupG, zAll, zSetC, zBlock, zCall, zTry, zRaise, zIsE, zstart, zEndsOf, ziTup, ziLst, ziStr, ziRng1, ziRng2, ziEnumK, ziZip, ziKeys, ziItems, seqK, zoNone, zoSome, zSl, zSlT, zSlS, zSlL, zIx, zRangeT, zRangeL, zRangeP, zNeg, zTruth, truD, zCatT, zNoIf, zInI, zAllB, zGetR, zDIn, zMGet, lookD, nowK, keyD, zDNewK, zDNewT, zDisp1K, zDisp1T, zDPut, zLenK, zLenT, zRepT, zRepL, zCatLD, zCatLP, zClear, zIxS, zListDP, zCallX, zNever, keysL, zRepP, zMinL, zMulS, zCallL, List.getElem?_cons_zero, List.getElem?_cons_succ, List.map_cons, List.map_nil, List.nil_append, List.cons_append, List.length_cons, List.length_nil, List.replicate_succ, List.replicate_zero, List.set_cons_zero, List.set_cons_succ, Option.join_some, Nat.reduceAdd, Nat.reduceSub, Nat.sub_self, Nat.zero_add, if_true, if_false, Bool.false_eq_true, Bool.not_true, Bool.not_false, true_and, and_true, beq_self_eq_true, String.reduceBEq, zLoop, List.length_map, List.length_set, updM_same, updM_updM, List.append_nil, Int.zero_add, Int.toNat_natCast, rangeD_len, pairsD_len, numD_len, Nat.min_self, atI_zero, decide_true, decide_false, Bool.not_eq_true, bne_self_eq_false, $xs,*] $[$l]?)
local macro_rules | `(tactic| dsimp! only [$xs,*] $[$l]?) => `(tactic| simp only [zVar, zMaxL, zC, zOp, zII, zIC, zEq, zNe, scalZ, zIs, zIsN, isNonD, zSS, zTest, zBool, zChain, zAnd, zOr, zNot, zAndV, zOrV, zNotV, zIfE, zNil, zCons, zTup, zLst, zLstP, zCB, z1, zLenD, z2I, zAbs, zDivmod, zInt, zList, zListP, zTuple, zSorted, zSet, zLenS, intsM, itemsM, zIsInst, isD, zBM, tyZ, zAppend, zExtend, zPop, zPopAt, zIndexS, zCount, zSum, zReverse, zSetI, zgSub, zNext, zSeq, zDrop, zRet, zRetN, zIfS, zgName, zgNil, zgCons, zgTup, zAsg, zFor, zForM, zComp, zCompP, zTupG, zAll, zSetC, zBlock, zCall, zTry, zRaise, zIsE, zstart, zEndsOf, ziTup, ziLst, ziStr, ziRng1, ziRng2, ziEnumK, ziZip, ziKeys, ziItems, seqK, zoNone, zoSome, zSl, zSlT, zSlS, zSlL, zIx, zRangeT, zRangeL, zRangeP, zNeg, zTruth, truD, zCatT, zNoIf, zInI, zAllB, zGetR, zDIn, zMGet, lookD, nowK, keyD, zDNewK, zDNewT, zDisp1K, zDisp1T, zDPut, zLenK, zLenT, zRepT, zRepL, zCatLD, zCatLP, zClear, zIxS, zListDP, zCallX, zNever, keysL, zRepP, zMinL, zMulS, zCallL, List.getElem?_cons_zero, List.getElem?_cons_succ, List.map_cons, List.map_nil, List.nil_append, List.cons_append, List.length_cons, List.length_nil, List.replicate_succ, List.replicate_zero, List.set_cons_zero, List.set_cons_succ, Option.join_some, Nat.reduceAdd, Nat.reduceSub, Nat.sub_self, Nat.zero_add, if_true, if_false, Bool.false_eq_true, Bool.not_true, Bool.not_false, true_and, and_true, beq_self_eq_true, String.reduceBEq, List.length_map, List.length_set, updM_same, updM_updM, List.append_nil, Int.zero_add, Int.toNat_natCast, rangeD_len, pairsD_len, numD_len, Nat.min_self, atI_zero, decide_true, decide_false, Bool.not_eq_true, bne_self_eq_false, $xs,*] $[$l]?)
namespace My
open PySem L2 PyProof.Rows
noncomputable def top (i : Nat) : Stmt := PySem.Challenge.pw_roadcall_k06_first_of_all_no_net.main.body.getD i (.Pass ⟨0, 0, 0, 0⟩)
noncomputable abbrev dw : Stmt := top 12
noncomputable abbrev bU : Stmt := top 13
noncomputable abbrev ly : Stmt := top 14
noncomputable abbrev g8 : Stmt := top 19
noncomputable abbrev g9 : Stmt := top 20
noncomputable abbrev bj : Stmt := top 21
noncomputable abbrev fH : Stmt := top 22
noncomputable abbrev qJ : Stmt := top 23
noncomputable abbrev t9 : Stmt := top 24
noncomputable abbrev qK : Stmt := top 25
noncomputable abbrev wx : Stmt := top 26
noncomputable abbrev rK : Stmt := top 27
noncomputable abbrev iu : Stmt := top 28
noncomputable abbrev rL : Stmt := top 29
noncomputable abbrev yo : Stmt := top 32
noncomputable abbrev pC : Stmt := top 33
noncomputable abbrev rM : Stmt := top 34
noncomputable abbrev oO : Stmt := top 35
noncomputable abbrev pD : Stmt := top 36
noncomputable abbrev iX : Stmt := top 37
noncomputable abbrev cH : Stmt := top 38
noncomputable abbrev dY : Stmt := top 39
noncomputable abbrev mI : Stmt := top 41
noncomputable abbrev dZ : Stmt := top 43
noncomputable abbrev nB : Stmt := top 44
noncomputable abbrev fI : Stmt := top 45
noncomputable abbrev fX : Stmt := top 46
noncomputable abbrev iw : Stmt := top 47
noncomputable abbrev wy : Stmt := top 49
noncomputable abbrev fY : Stmt := top 50
noncomputable abbrev mJ : Stmt := top 51
noncomputable abbrev fZ : Stmt := top 52
noncomputable abbrev gC : Stmt := top 55
noncomputable abbrev oP : Stmt := top 57
noncomputable abbrev nC : Stmt := top 58
noncomputable abbrev yp : Stmt := top 59
noncomputable abbrev ix : Stmt := top 60
noncomputable abbrev yq : Stmt := top 62
noncomputable abbrev ua : Stmt := top 63
noncomputable abbrev kr : Stmt := top 64
noncomputable abbrev fP : Stmt := top 65
noncomputable abbrev mK : Stmt := top 66
noncomputable abbrev eV : Stmt := top 67
noncomputable abbrev gD : Stmt := top 69
noncomputable abbrev cX : Stmt := top 70
noncomputable abbrev fJ : Stmt := top 71
noncomputable abbrev dy : Stmt := top 72
noncomputable abbrev dG : Stmt := top 73
noncomputable abbrev eW : Stmt := top 74
noncomputable abbrev ub : Stmt := top 75
section
variable {P : Program} {w : World} {K : PySem.W.Frag} {mg : Str → Option Value} {base : Heap} {tb : eG} {k : Nat} {f : Addr} {fd : FuncData} {ps : List Str}
theorem cY : aG ["_law_script", "_law_at", "_law_cell", "_law_mix", "_law_k"] ["_law_script", "_law_at"] (ak gD) := ⟨rfl, rfl, rfl, by decide +kernel, rfl, by decide +kernel, by decide +kernel⟩
theorem dg : aG ["_law_bag_here", "_law_many", "_law_digit", "_law_number", "_law_room"] ["_law_bag_here", "_law_many"] (ak cX) := ⟨rfl, rfl, rfl, by decide +kernel, rfl, by decide +kernel, by decide +kernel⟩
theorem eX : aG ["_law_bag_here", "_law_many", "_law_rest", "_law_found", "_law_k"] ["_law_bag_here", "_law_many"] (ak fJ) := ⟨rfl, rfl, rfl, by decide +kernel, rfl, by decide +kernel, by decide +kernel⟩
theorem a9 : aG ["_law_bag_here", "_law_most", "_law_many", "_law_fans", "_law_kind", "_law_lap", "_law_order_here", "_law_rows", "_law_k", "_law_goals", "_law_fan"] ["_law_bag_here", "_law_most"] (ak dy) := ⟨rfl, rfl, rfl, by decide +kernel, rfl, by decide +kernel, by decide +kernel⟩
noncomputable def El : dM := fun ds M Q _ => ∃ (ns : List Int) (t : Int), ds = [.bp ns, .int t] ∧ ns.length ≤ 63 ∧ 0 ≤ t ∧ t ≤ 63 ∧ ∀ b, M b = none → Q (.ptr b) (az M b .cQ)
noncomputable def zP : dM := fun ds M Q _ => ∃ (ns : List Int) (t : Int), ds = [.bp ns, .int t] ∧ ns.length ≤ 63 ∧ 0 ≤ t ∧ t ≤ 63 ∧ ∀ b c m, M b = none → 0 ≤ c → 0 ≤ m → Q (.ptr b) (az M b (.lst [.int c, .int m]))
theorem ud (D : Df K mg "_law_bag" gD ["_law_script", "_law_at"] f fd) (bl : Bl mg) : FnOk P w K mg base b9 1 f fd ["_law_script", "_law_at"] (aB P w K tb zP) := by
  refine gZ D cY (fun ds M Q E hS => by obtain ⟨ns, t, e, _⟩ := hS; rw [e]; rfl) fun A outer s E Γ ds Q' E' hP hw hK ht hr hS => ?_
  obtain ⟨ns, t, e, hl, t0, t1, q⟩ := hS
  refine ⟨_, (aj (aU (i := 2) cY.nd rfl (Or.inl rfl) ai)
    (aj (bJ (bC iC (qv 1) (aS (eU (K := K) rfl hK) rfl bl.len_ PySem.boot_len (aa (qv 0) ae)) (bN _))
      (au (aU (i := 2) cY.nd rfl (Or.inl rfl) (aS F6 rfl bl.abs_ Dq (aa (bc (zO (K := K) rfl hK) (qv 0) (qv 1) (fun _ _ => rfl)) ae))))
      qss_nil)
    (aj (aU (i := 3) cY.nd rfl (Or.inl rfl) (aI eT (aI jh ai (qv 1)) ai))
    (aj (fG PassesOwn.never rfl (cD rfl bl.range_ (aa (aS (qB rfl) rfl bl.min_ p7 (aa (aS (eU (K := K) rfl hK) rfl bl.len_ PySem.boot_len (aa (qv 0) ae)) (aa ai ae))) ae)) (fun mL eP ew eK et => by have hP := hP.trans eP.symm; have hw := hw.trans ew.symm; have hK := hK.trans eK.symm; have ht := ht.trans et.symm; exact ⟨(bT (i := 4) cY.nd rfl (Or.inl rfl)), (au (aU (i := 3) cY.nd rfl (Or.inl rfl) (aI iq (aI eT (aI eT (aI jh (qv 3) ai) (aI iq (bc (zO (K := K) rfl hK) (qv 0) (qv 4) (fun _ _ => rfl)) ai)) (qv 4)) ai)))⟩))
    (aj (bJ (bC iC (qv 2) (aI t4 ai ai) (bN _))
      (au (aU (i := 2) cY.nd rfl (Or.inl rfl) ai))
      qss_nil)
    (au (bD (km (aa (qv 2) (aa (qv 3) ae)))))))))), ?_⟩
  subst e
  refine Gf (fun ρ M => M = Γ.M0 ∧ ∃ c m x : Int, ∃ x4, 0 ≤ c ∧ 0 ≤ m ∧ ρ = [some (.bp ns), some (.int t), some (.int c), some (.int m), x4]) (fun N hN => ?_) ?_
  · refine Gd (fun ρ M => M = Γ.M0 ∧ ∃ c : Int, 0 ≤ c ∧ ρ = [some (.bp ns), some (.int t), some (.int c), none, none]) (fun N hN => ?_) ?_
    · simp! only []
      refine dN (fun h => ?_) (fun _ => hN _ _ ⟨rfl, 0, by omega, rfl⟩)
      have ht : t < (ns.length : Int) := of_decide_eq_true h
      obtain ⟨k, rfl⟩ := Int.eq_ofNat_of_zero_le t0
      rw [wa (show k < ns.length by omega)]
      exact hN _ _ ⟨rfl, _, by split <;> omega, rfl⟩
    rintro ρ M ⟨rfl, c, hc, rfl⟩
    simp! only []
    refine ⟨.inl ⟨by decide, by decide⟩, by split <;> omega, by split <;> omega, ?_⟩
    refine dm (fun i ρ M => M = Γ.M0 ∧ ∃ m : Int, ∃ x4, 0 ≤ m ∧ ρ = [some (.bp ns), some (.int t), some (.int c), some (.int m), x4]) ⟨rfl, _, _, by omega, rfl⟩ (fun i d ρ M N2 hd hJ mM => ?_) (fun ρ M hJ => ?_)
    · obtain ⟨rfl, m, x4, hm, rfl⟩ := hJ
      obtain ⟨rfl, hi⟩ := cU hd
      have hi : i < ns.length := by split at hi <;> omega
      simp! only [wa hi]
      exact ⟨.inr ⟨by decide, by decide⟩, by decide, by decide, mM _ _ ⟨rfl, _, _, Int.emod_nonneg _ (by decide), rfl⟩⟩
    · obtain ⟨rfl, m, x4, hm, rfl⟩ := hJ
      exact hN _ _ ⟨rfl, c, m, 0, x4, hc, hm, rfl⟩
  · rintro ρ M ⟨rfl, c, m, x, x4, hc, hm, rfl⟩
    simp! only []
    exact ⟨⟨by decide, by decide, by decide⟩, dN (fun _ => ⟨by decide, fun a ha => .inl (q a 0 m ha (by omega) hm)⟩) (fun _ => ⟨by decide, fun a ha => .inl (q a c m ha hc hm)⟩)⟩
theorem Gh (G : FnOk P w K mg base b9 k f fd ps (aB P w K tb zP)) : FnOk P w K mg base b9 k f fd ps (aB P w K tb El) := G.imp fun vs H Q E hS => by
  obtain ⟨β, ds, M, Q', E', eP, ew, eK, et, m, rs, ⟨ns, t, e, h1, h2, h3, h⟩, q, qe⟩ := hS
  refine ⟨β, ds, M, fun d M' => ∃ b c m, d = .ptr b ∧ M b = none ∧ 0 ≤ c ∧ 0 ≤ m ∧ M' = az M b (.lst [.int c, .int m]), fun _ _ => False, eP, ew, eK, et, m, rs, ⟨ns, t, e, h1, h2, h3, fun b c m h4 h5 h6 => ⟨b, c, m, rfl, h4, h5, h6, rfl⟩⟩, fun d M' v H' x r hQ => ?_, fun _ _ _ _ h => h.elim⟩
  obtain ⟨b, c, m', rfl, hb, hc, hm, rfl⟩ := hQ
  have hB := wu x.mz hc hm
  exact q _ _ _ _ (Ex.sealed hb x hB) (r.dom (gH M b _ _)) (h b hb)
noncomputable def mO : dM := fun ds M Q _ => ∃ (b : Addr) (n : Int), ds = [.ptr b, .int n] ∧ M b = some .cQ ∧ 1 ≤ n ∧ n < 1073741824 ∧ ∀ d : Nat, (d : Int) < n → Q (.int (d : Nat)) M
noncomputable def wz : dM := fun ds M Q _ => ∃ (b : Addr) (n c m : Int), ds = [.ptr b, .int n] ∧ M b = some (.lst [.int c, .int m]) ∧ 0 ≤ c ∧ 0 ≤ m ∧ 1 ≤ n ∧ n < 1073741824 ∧ ∀ (d : Nat) (c m : Int), (d : Int) < n → 0 ≤ c → 0 ≤ m → Q (.int (d : Nat)) (az M b (.lst [.int c, .int m]))
theorem rN (D : Df K mg "_law_take" cX ["_law_bag_here", "_law_many"] f fd) : FnOk P w K mg base b9 1 f fd ["_law_bag_here", "_law_many"] (aB P w K tb wz) := by
  refine gZ D dg (fun ds M Q E hS => by obtain ⟨b, n, c, m, e, _⟩ := hS; rw [e]; rfl) fun A outer s E Γ ds Q' E' hP hw hK ht hr hS => ?_
  obtain ⟨b, n, c, m, e, hb, hc, hm, n1, n2, q⟩ := hS
  refine ⟨_, (aj (bJ (bC DY (bc (bR (K := K) rfl) (qv 0) ai (fun _ _ => rfl)) ai (bN _))
      (aj (aU (i := 2) dg.nd rfl (Or.inl rfl) (aI iq (bc (bR (K := K) rfl) (qv 0) ai (fun _ _ => rfl)) (qv 1)))
    (aj (jU (aI qz (bc (bR (K := K) rfl) (qv 0) ai (fun _ _ => rfl)) (qv 1)) (jX (qv 0) ai))
    (au (bD (qv 2)))))
      qss_nil)
    (aj (aU (i := 3) dg.nd rfl (Or.inl rfl) ai)
    (aj (aU (i := 4) dg.nd rfl (Or.inl rfl) ai)
    (aj (yf PassesOwn.never (bC iC (qv 4) (qv 1) (bN _))
      (aj (jU (aI iq (aI eT (aI jh (bc (bR (K := K) rfl) (qv 0) ai (fun _ _ => rfl)) ai) ai) ai) (jX (qv 0) ai))
    (aj (aU (i := 3) dg.nd rfl (Or.inl rfl) (aI eT (aI jh (qv 3) ai) (aI iq (aI jh (aI qz (bc (bR (K := K) rfl) (qv 0) ai (fun _ _ => rfl)) ai) ai) ai)))
    (au (aU (i := 4) dg.nd rfl (Or.inl rfl) (aI jh (qv 4) ai))))))
    (au (bD (aI iq (qv 3) (qv 1)))))))), ?_⟩
  subst e
  have K5 : ∀ x y : Int, cB [Dv.int x, Dv.int y] 1 = some (.int y) := fun x y => bS (j := 1) rfl
  have K6 : fA 2 0 = some 0 := rfl
  have K7 : fA 2 1 = some 1 := rfl
  have fin : ∀ {i c m : Int} {M : Mh}, 0 ≤ c → 0 ≤ m → M = az Γ.M0 b (.lst [.int c, .int m]) → jY Γ.M0 Q' (.int (i % n)) M := fun {i c m M} hc hm e => by
    obtain ⟨d, hd⟩ := Int.eq_ofNat_of_zero_le (Int.emod_nonneg i (show n ≠ 0 by omega))
    have := Int.emod_lt_of_pos i (show 0 < n by omega)
    rw [hd, e]
    exact .inl (q d c m (by omega) hc hm)
  simp! only [hb, K6]
  refine dN (fun h => ?_) (fun h => ?_)
  · refine ⟨by omega, ⟨by omega, n2⟩, fin (Int.ediv_nonneg hc (by omega)) hm rfl⟩
  · refine ⟨fun k ρ M => ∃ num room c m x2, 0 ≤ num ∧ 1 ≤ room ∧ 0 ≤ c ∧ 0 ≤ m ∧ k = (n - room).toNat ∧ ρ = [some (.ptr b), some (.int n), x2, some (.int num), some (.int room)] ∧ M = az Γ.M0 b (.lst [.int c, .int m]), ⟨_, 0, 1, c, m, _, by omega, by omega, hc, hm, rfl, rfl, (sX hb).symm⟩, ?_⟩
    rintro k ρ M ⟨num, room, c, m, x2, h1, h2, hc, hm, rfl, rfl, rfl⟩
    simp! only [K5, K7, updM_same]
    refine dN (fun h => ?_) (fun h => ⟨by omega, fin hc hm rfl⟩)
    have h := of_decide_eq_true h
    have m3 : 0 ≤ (m * 48271 + 7919) % 2147483647 := Int.emod_nonneg _ (by decide)
    have n3 : 0 ≤ (m * 48271 + 7919) % 2147483647 / 8 * 69621 % 1073741789 := Int.emod_nonneg _ (by decide)
    refine ⟨.inr ⟨by decide, by decide⟩, by decide, .inr ⟨by decide, by decide⟩, ⟨by decide, by decide⟩, .inr ⟨by decide, by decide⟩, by decide, .inr ⟨by decide, by decide⟩, _, ?_, _, _, c, _, _, ?_, ?_, hc, m3, rfl, rfl, rfl⟩ <;> omega
theorem Em (G : FnOk P w K mg base b9 k f fd ps (aB P w K tb wz)) : FnOk P w K mg base b9 k f fd ps (aB P w K tb mO) := G.imp fun vs H Q E hS => by
  obtain ⟨β, ds, M, Q', E', eP, ew, eK, et, m, rs, ⟨b, n, e, hb, h1, h2, h⟩, q, qe⟩ := hS
  have eM := sX hb
  have d1 : ∀ o a, (M a).isSome = (az M b o a).isSome := fun o a => by have := gH M b .cQ o a; rwa [eM] at this
  rw [← eM] at m
  obtain ⟨c, m0, hc, hm, hO⟩ := Ei m
  refine ⟨β, ds, az M b (.lst [.int c, .int m0]), fun d M' => ∃ (k : Nat) (c' m' : Int), d = .int (k : Nat) ∧ (k : Int) < n ∧ 0 ≤ c' ∧ 0 ≤ m' ∧ M' = az M b (.lst [.int c', .int m']), fun _ _ => False, eP, ew, eK, et, m.chg hO, ⟨rs.len, fun i v d x y => (rs.at' i v d x y).dom (d1 _)⟩, ⟨b, n, c, m0, e, updM_same, hc, hm, h1, h2, fun d c' m' h3 h4 h5 => ⟨d, c', m', rfl, h3, h4, h5, updM_updM⟩⟩, fun d M' v H' x r hQ => ?_, fun _ _ _ _ h => h.elim⟩
  obtain ⟨k, c', m', rfl, hk, y7, pV, rfl⟩ := hQ
  have hB := wu x.mz y7 pV
  have x2 := Ex.chg (o2 := .cQ) x hB
  rw [eM] at x2
  exact q _ _ _ _ x2 (r.dom fun a => (d1 _ a).symm) (h k hk)
theorem oD {α β : Type} (f : α → β) : ∀ (l : List α) (i : Nat), (l.map f).eraseIdx i = (l.eraseIdx i).map f
  | [], _ => rfl
  | _ :: _, 0 => rfl
  | a :: l, i + 1 => by
    show f a :: (l.map f).eraseIdx i = f a :: (l.eraseIdx i).map f
    rw [oD f l i]
theorem gB {α : Type} : ∀ (l : List α) (i : Nat) (h : i < l.length), (l[i] :: l.eraseIdx i).Perm l
  | a :: l, 0, _ => .refl _
  | a :: l, i + 1, h => by
    have h' : i < l.length := by simpa using h
    show (l[i] :: a :: l.eraseIdx i).Perm (a :: l)
    exact (List.Perm.swap a l[i] _).trans ((gB l i h').cons a)
structure cF (n : Nat) (os : List Int) : Prop where
  perm : os.Perm ((List.range n).map fun i : Nat => (i : Int))
theorem cF.len {n : Nat} {os : List Int} (h : cF n os) : os.length = n := by
  have := h.perm.length_eq
  simpa using this
theorem cF.mem {n : Nat} {os : List Int} (h : cF n os) {x : Int} (hx : x ∈ os) : 0 ≤ x ∧ x < n := by
  have := h.perm.mem_iff.mp hx
  obtain ⟨i, hi, rfl⟩ := List.mem_map.mp this
  have := List.mem_range.mp hi
  omega
theorem cF.at {n : Nat} {os : List Int} (h : cF n os) {i : Nat} (hi : i < n) : ∃ x : Int, cB (os.map Dv.int) (i : Int) = some (.int x) ∧ 0 ≤ x ∧ x < n := by
  have hl : i < os.length := by rw [h.len]; exact hi
  exact ⟨os[i], bS (by rw [List.getElem?_map, List.getElem?_eq_getElem hl]; rfl), h.mem (List.getElem_mem hl)⟩
noncomputable def wA : dM := fun ds M Q _ => ∃ (b : Addr) (n : Nat), ds = [.ptr b, .int (n : Nat)] ∧ M b = some .cQ ∧ n ≤ 100 ∧ ∀ os, cF n os → Q (g6 os) M
noncomputable def zQ : dM := fun ds M Q _ => ∃ (b : Addr) (most : Nat), ds = [.ptr b, .int (most : Nat)] ∧ M b = some .cQ ∧ 1 ≤ most ∧ most ≤ 9 ∧ ∀ aD n, mi aD n → aD.length ≤ most → Q (eN aD) M
theorem A0 {n d : Nat} (h : d < n) : seqIndex? (d : Int) n = some d := (m4 (n := n) (i := (d : Int)) (j := d) (by unfold fA; rw [if_pos (by omega), if_pos (by omega)]; rfl)).1
theorem qM {f1 : Addr} {aL : FuncData} (D : Df K mg "_law_order" fJ ["_law_bag_here", "_law_many"] f fd)
    (ah : Df K mg "_law_take" cX ["_law_bag_here", "_law_many"] f1 aL) (aW : FnOk P w K mg base b9 1 f1 aL ["_law_bag_here", "_law_many"] (aB P w K tb mO)) (bl : Bl mg) : FnOk P w K mg base b9 2 f fd ["_law_bag_here", "_law_many"] (aB P w K tb wA) := by
  refine gZ D eX (fun ds M Q E hS => by obtain ⟨b, n, e, _⟩ := hS; rw [e]; rfl) fun A outer s E Γ ds Q' E' hP hw hK ht hr hS => ?_
  obtain ⟨b, n, e, hb, hn, q⟩ := hS
  refine ⟨_, (aj (aU (i := 2) eX.nd rfl (Or.inl rfl) (oN rfl rfl bl.list_ rfl bl.range_ (qv 1)))
    (aj (aU (i := 3) eX.nd rfl (Or.inl rfl) (km ae))
    (aj (fG PassesOwn.never rfl (cD rfl bl.range_ (aa (qv 1) ae)) (fun mL eP ew eK et => by have hP := hP.trans eP.symm; have hw := hw.trans ew.symm; have hK := hK.trans eK.symm; have ht := ht.trans et.symm; exact ⟨(bT (i := 4) eX.nd rfl (Or.inl rfl)), (au (aY (pz (K := K) rfl PySem.F.plainAttrs_list PySem.F.slot_list_append PySem.F.type_list_append lx (qv 3) (aa (pz (K := K) rfl PySem.F.plainAttrs_list PySem.F.slot_list_pop PySem.F.type_list_pop AW (qv 2) (aa (ax aW (hr.mono (by decide)) rfl ah.mg ah.fn.kp ah.bd bH hP hw hK ht XR.none (aa (qv 0) (aa (aS (eU (K := K) rfl hK) rfl bl.len_ PySem.boot_len (aa (qv 2) ae)) ae))) ae)) ae))))⟩))
    (au (bD (qv 3)))))), ?_⟩
  subst e
  have big : (1000 : Nat) < sizeLine := by decide
  simp! only []
  refine ⟨by omega, by omega, fun a ha => ⟨by omega, fun c hc => ⟨by omega, by omega, ?_⟩⟩⟩
  have zR : c ≠ a := fun z => by rw [z, updM_same] at hc; cases hc
  have En : Γ.M0 c = none := by rw [aq zR] at hc; exact hc
  have K8 : b ≠ a := fun z => by rw [z, ha] at hb; cases hb
  have K9 : b ≠ c := fun z => by rw [z, En] at hb; cases hb
  refine dm (fun i ρ M => ∃ rest got : List Int, (∃ x, ρ = [some (.ptr b), some (.int (n : Nat)), some (.ptr a), some (.ptr c), x]) ∧ M a = some (.lst (rest.map .int)) ∧ M c = some (.lst (got.map .int)) ∧ (∀ d, d ≠ a → d ≠ c → M d = Γ.M0 d) ∧ got.length = i ∧ (got ++ rest).Perm ((List.range n).map fun i : Nat => (i : Int)))
    ⟨(List.range n).map fun i : Nat => (i : Int), [], ⟨_, rfl⟩, by rw [aq (Ne.symm zR), updM_same, iD, List.map_map]; rfl, updM_same, fun d h1 h2 => by rw [aq h2, aq h1], rfl, .refl _⟩ (fun i d ρ M N hd hJ hN => ?_) (fun ρ M hJ => ?_)
  · obtain ⟨rest, got, ⟨x, rfl⟩, Eo, zS, zT, hg, pm⟩ := hJ
    obtain ⟨rfl, hi⟩ := cU hd
    have hlen : got.length + rest.length = n := by have := pm.length_eq; simpa using this
    simp! only [Eo, zS]
    refine ⟨b, _, rfl, (by rw [zT b K8 K9]; exact hb), by omega, by omega, fun d hd => ?_⟩
    have Ep : d < rest.length := by omega
    simp only [Eo, List.length_map, A0 Ep, List.getElem?_map, List.getElem?_eq_getElem Ep, Option.map_some, aq zR, zS]
    refine ⟨by omega, by omega, by omega, hN _ _ ⟨rest.eraseIdx d, got ++ [rest[d]], ⟨_, rfl⟩, by rw [aq (Ne.symm zR), updM_same, oD], by rw [updM_same, List.map_append]; rfl, fun e h1 h2 => by rw [aq h2, aq h1]; exact zT e h1 h2, by simp [hg], ?_⟩⟩
    refine List.Perm.trans ?_ pm
    rw [List.append_assoc]
    exact List.Perm.append_left got (gB rest d Ep)
  · obtain ⟨rest, got, ⟨x, rfl⟩, Eo, zS, zT, hg, pm⟩ := hJ
    rw [rangeD_len] at hg
    have hlen : got.length + rest.length = n := by have := pm.length_eq; simpa using this
    have La : rest = [] := List.eq_nil_of_length_eq_zero (by omega)
    rw [La, List.append_nil] at pm
    exact wd (fun d o e => by rw [zT d (fun z => by rw [z, ha] at e; cases e) (fun z => by rw [z, En] at e; cases e)]; exact e) En zS (dX _) (q got ⟨pm⟩)
end
section
variable {P : Program} {w : World} {K : PySem.W.Frag} {mg : Str → Option Value} {base : Heap} {tb : eG}
noncomputable def gE (n ways : Nat) (row : List Int) : Prop := row.length = ways ∧ ∀ x ∈ row, 0 ≤ x ∧ x < (n : Int)
structure ej (M0 M : Mh) (r : Addr) (as : List Addr) (n ways : Nat) : Prop where
  kp : Keeps M0 M
  r0 : M0 r = none
  rm : M r = some (.lst (as.map .ptr))
  fr : ∀ a ∈ as, M0 a = none ∧ a ≠ r
  len : as.length = n
  row : ∀ a ∈ as, ∃ row : List Int, M a = some (.lst (row.map .int)) ∧ gE n ways row
  pin : ∀ b o, M b = some o → M0 b = some o ∨ b = r ∨ (∃ row : List Int, o = .lst (row.map .int)) ∨ ∃ bs : List Addr, o = .lst (bs.map .ptr) ∧ ∀ c ∈ bs, c ≠ r ∧ ∃ o, M c = some o
theorem ej.Er {M0 M : Mh} {r : Addr} {as : List Addr} {n ways : Nat} (h : ej M0 M r as n ways) {a : Addr} (ha : a ∈ as) {row : List Int} (o : gE n ways row) : ej M0 (az M a (.lst (row.map .int))) r as n ways := by
  obtain ⟨f0, f1⟩ := h.fr a ha
  refine ⟨.upd f0 h.kp, h.r0, by rw [aq (Ne.symm f1)]; exact h.rm, h.fr, h.len, fun c hc => ?_, fun b u e => ?_⟩
  · by_cases z : c = a
    · subst z; exact ⟨row, updM_same, o⟩
    · rw [aq z]; exact h.row c hc
  · by_cases z : b = a
    · subst z; rw [updM_same] at e; cases e; exact .inr (.inr (.inl ⟨row, rfl⟩))
    · rw [aq z] at e
      rcases h.pin b u e with q | q | q | ⟨bs, q1, q2⟩
      · exact .inl q
      · exact .inr (.inl q)
      · exact .inr (.inr (.inl q))
      · refine .inr (.inr (.inr ⟨bs, q1, fun c hc => ⟨(q2 c hc).1, ?_⟩⟩))
        by_cases z : c = a
        · subst z; exact ⟨_, updM_same⟩
        · rw [aq z]; exact (q2 c hc).2
theorem ej.put {M0 M : Mh} {r : Addr} {as : List Addr} {n ways : Nat} (h : ej M0 M r as n ways) {a : Addr} (ha : M a = none) {row : List Int} (o : gE n ways row) {i : Nat} (hi : i < n) : ej M0 (az (az M a (.lst (row.map .int))) r (.lst ((as.map .ptr).set i (.ptr a)))) r (as.set i a) n ways := by
  have nr : a ≠ r := fun z => by rw [z, h.rm] at ha; cases ha
  have a0 : M0 a = none := by
    cases e : M0 a with
    | none => rfl
    | some u => rw [h.kp a u e] at ha; cases ha
  have Lb : a ∉ as := fun z => by obtain ⟨row, e, _⟩ := h.row a z; rw [ha] at e; cases e
  refine ⟨.upd h.r0 (.upd a0 h.kp), h.r0, by rw [updM_same, List.map_set], fun c hc => ?_, by rw [List.length_set]; exact h.len, fun c hc => ?_, fun b u e => ?_⟩
  · rcases List.mem_or_eq_of_mem_set hc with z | z
    · exact h.fr c z
    · rw [z]; exact ⟨a0, nr⟩
  · rcases List.mem_or_eq_of_mem_set hc with z | z
    · have n1 := (h.fr c z).2
      have n2 : c ≠ a := fun e => Lb (e ▸ z)
      rw [aq n1, aq n2]; exact h.row c z
    · rw [z, aq nr, updM_same]; exact ⟨row, rfl, o⟩
  · by_cases z : b = r
    · exact .inr (.inl z)
    · rw [aq z] at e
      by_cases z2 : b = a
      · subst z2; rw [updM_same] at e; cases e; exact .inr (.inr (.inl ⟨row, rfl⟩))
      · rw [aq z2] at e
        rcases h.pin b u e with q | q | q | ⟨bs, q1, q2⟩
        · exact .inl q
        · exact .inr (.inl q)
        · exact .inr (.inr (.inl q))
        · refine .inr (.inr (.inr ⟨bs, q1, fun c hc => ⟨(q2 c hc).1, ?_⟩⟩))
          rw [aq (q2 c hc).1]
          by_cases z : c = a
          · subst z; exact ⟨_, updM_same⟩
          · rw [aq z]; exact (q2 c hc).2
structure lz (M0 M : Mh) : Prop where
  kp : Keeps M0 M
  pin : ∀ b o, M b = some o → M0 b = some o ∨ (∃ row : List Int, o = .lst (row.map .int)) ∨ ∃ bs : List Addr, o = .lst (bs.map .ptr) ∧ ∀ c ∈ bs, ∃ o, M c = some o
theorem lz.refl {M0 : Mh} : lz M0 M0 := ⟨.refl, fun b o e => .inl e⟩
theorem gF {M0 M : Mh} (h : Keeps M0 M) {a : Addr} (ha : M a = none) : M0 a = none := by
  cases e : M0 a with
  | none => rfl
  | some u => rw [h a u e] at ha; cases ha
theorem lz.row {M0 M : Mh} (h : lz M0 M) {a : Addr} (ha : M a = none) (row : List Int) : lz M0 (az M a (.lst (row.map .int))) := by
  refine ⟨.upd (gF h.kp ha) h.kp, fun b o e => ?_⟩
  by_cases z : b = a
  · subst z; rw [updM_same] at e; cases e; exact .inr (.inl ⟨row, rfl⟩)
  · rw [aq z] at e
    rcases h.pin b o e with q | q | ⟨bs, q1, q2⟩
    · exact .inl q
    · exact .inr (.inl q)
    · refine .inr (.inr ⟨bs, q1, fun c hc => ?_⟩)
      by_cases z : c = a
      · subst z; exact ⟨_, updM_same⟩
      · rw [aq z]; exact q2 c hc
theorem LI {g : cm} {te : aE} {n : Nat} {M1 : Mh} (T : aA → Prop) {ds : List Dv} {τ : aA} {Q : List Dv → Mh → Prop} (h0 : T τ) (h : ∀ d ∈ ds, ∀ τ, T τ → ∀ R : aA → ZK, (∀ (x : Int) aF, 0 ≤ x → x < (n : Int) → T aF → R aF (.int x) M1) → g d τ M1 fun aF M2 => te aF M2 (R aF)) (q : ∀ row : List Int, row.length = ds.length → (∀ x ∈ row, 0 ≤ x ∧ x < (n : Int)) → Q (row.map .int) M1) : fc g zNoIf te ds τ M1 Q := by
  refine jk (acc := []) (fun acc τ M => ∃ row : List Int, acc = row.map Dv.int ∧ (∀ x ∈ row, 0 ≤ x ∧ x < (n : Int)) ∧ T τ ∧ M = M1) ⟨[], rfl, (fun _ h => nomatch h), h0, rfl⟩ (fun i d acc τ M hd _ ⟨row, e1, hr, ht, e2⟩ R hR => ?_) (fun ys τ M hl ⟨row, e1, hr, ht, e2⟩ => ?_)
  · subst e1 e2
    refine h d (List.mem_of_getElem? hd) τ ht R fun x aF x0 x1 t2 => hR _ _ _ ⟨row ++ [x], by rw [List.map_append]; rfl, fun y hy => ?_, t2, rfl⟩
    rcases List.mem_append.mp hy with z | z
    · exact hr y z
    · rw [List.mem_singleton] at z; rw [z]; exact ⟨x0, x1⟩
  · rw [List.nil_append] at e1
    subst e1 e2
    exact q row (by simpa using hl) hr
noncomputable def d6 (x : Option Dv) : Prop := ∀ M d, x = some d → Pin M d
theorem d6.none : d6 none := fun _ _ h => nomatch h
theorem d6.int (i : Int) : d6 (some (.int i)) := fun _ _ h => by cases h; exact .int i
theorem d6.lI (ns : List Int) : d6 (some (g6 ns)) := fun _ _ h => by cases h; exact .lst (dX ns)
theorem nD {n d : Nat} (h : d < n) : fA n (d : Int) = some d := by unfold fA; rw [if_pos (by omega), if_pos (by omega)]; rfl
theorem qN (row : List Int) (t : Nat) (x : Int) : (row.map Dv.int).set t (.int x) = (row.set t x).map Dv.int := by rw [List.map_set]
theorem gE.set {n ways : Nat} {row : List Int} (h : gE n ways row) {t : Nat} {x : Int} (x0 : 0 ≤ x) (x1 : x < (n : Int)) : gE n ways (row.set t x) := ⟨by rw [List.length_set]; exact h.1, fun y hy => by
  rcases List.mem_or_eq_of_mem_set hy with z | z
  · exact h.2 y z
  · rw [z]; exact ⟨x0, x1⟩⟩
noncomputable def mP (os : List Int) : Dv → Int | .int j => os.getD j.toNat 0 | _ => 0
theorem qO {os : List Int} {j : Nat} {x : Int} (h : cB (os.map Dv.int) (j : Int) = some (.int x)) : mP os (.int (j : Nat)) = x := by
  by_cases hj : j < os.length
  · rw [bS (j := j) (v := Dv.int os[j]) (by rw [List.getElem?_map, List.getElem?_eq_getElem hj]; rfl)] at h
    cases h
    show os.getD (Int.toNat (j : Int)) 0 = _
    rw [Int.toNat_natCast, List.getD_eq_getElem?_getD, List.getElem?_eq_getElem hj]; rfl
  · unfold cB fA at h
    rw [if_pos (by omega), if_neg (by simp; omega)] at h
    cases h
noncomputable def yr (per i : Nat) : Dv → Bool | .int j => decide (j % (per : Int) = ((i : Int) + 1) % (per : Int)) | _ => false
theorem yt {n per i : Nat} {os : List Int} (dP : cF n os) (p1 : 1 ≤ per) (pn : per ≤ n) : ∃ gs : List Int, ((de 0 n).filter (yr per i)).map (fun d => Dv.int (mP os d)) = gs.map Dv.int ∧ 1 ≤ gs.length ∧ gs.length ≤ n ∧ ∀ x ∈ gs, 0 ≤ x ∧ x < (n : Int) := by
  refine ⟨((de 0 n).filter (yr per i)).map (mP os), by rw [List.map_map]; rfl, ?_, ?_, fun x hx => ?_⟩
  · rw [List.length_map]
    refine List.length_pos_of_mem (a := Dv.int (((i + 1) % per : Nat) : Int)) (List.mem_filter.mpr ⟨?_, ?_⟩)
    · have : (i + 1) % per < per := Nat.mod_lt _ (by omega)
      exact List.mem_of_getElem? (i := (i + 1) % per) (by rw [de, List.getElem?_map, List.getElem?_range (by omega)]; simp)
    · show decide _ = true
      rw [decide_eq_true_eq]
      push_cast
      exact Int.emod_emod_of_dvd _ (Int.dvd_refl _)
  · rw [List.length_map]
    exact Nat.le_trans (List.length_filter_le _ _) (by rw [rangeD_len]; exact Nat.le_refl _)
  · obtain ⟨d, hd, rfl⟩ := List.mem_map.mp hx
    obtain ⟨j, hj, rfl⟩ := mG (List.mem_filter.mp hd).1
    rw [Int.zero_add]
    obtain ⟨gx, zU, g0, g1⟩ := dP.at hj
    rw [qO zU]
    exact ⟨g0, g1⟩
structure fK (M0 M : Mh) (r : Addr) (as : List Addr) (n : Nat) (L : Nat → Nat) : Prop where
  own : lz M0 M
  r0 : M0 r = none
  rm : M r = some (.lst (as.map .ptr))
  fr : ∀ a ∈ as, M0 a = none ∧ a ≠ r
  nd : as.Nodup
  len : as.length = n
  rows : ∀ i a, as[i]? = some a → ∃ row : List Int, M a = some (.lst (row.map .int)) ∧ gE n (L i) row
  ptr : ∀ b bs, M b = some (.lst (bs.map .ptr)) → b = r ∨ M0 b = some (.lst (bs.map .ptr)) ∨ bs = []
theorem fK.set {M0 M : Mh} {r : Addr} {as : List Addr} {n : Nat} {L : Nat → Nat} (h : fK M0 M r as n L) {i : Nat} {a : Addr} (ha : as[i]? = some a) {row : List Int} {m : Nat} (o : gE n m row) : fK M0 (az M a (.lst (row.map .int))) r as n fun j => if j = i then m else L j := by
  have hm := List.mem_of_getElem? ha
  obtain ⟨f0, f1⟩ := h.fr a hm
  refine ⟨⟨.upd f0 h.own.kp, fun b o e => ?_⟩, h.r0, by rw [aq (Ne.symm f1)]; exact h.rm, h.fr, h.nd, h.len, fun j c hc => ?_, fun b bs e => ?_⟩
  · by_cases z : b = a
    · subst z; rw [updM_same] at e; cases e; exact .inr (.inl ⟨row, rfl⟩)
    · rw [aq z] at e
      rcases h.own.pin b o e with q | q | ⟨bs, q1, q2⟩
      · exact .inl q
      · exact .inr (.inl q)
      · refine .inr (.inr ⟨bs, q1, fun c hc => ?_⟩)
        by_cases z : c = a
        · subst z; exact ⟨_, updM_same⟩
        · rw [aq z]; exact q2 c hc
  · by_cases z : j = i
    · subst z
      rw [ha] at hc; cases hc
      exact ⟨row, updM_same, by rw [if_pos rfl]; exact o⟩
    · have Lc : c ≠ a := fun e => z (by
        subst e
        obtain ⟨h1, e1⟩ := List.getElem?_eq_some_iff.mp ha
        obtain ⟨h2, e2⟩ := List.getElem?_eq_some_iff.mp hc
        rcases Nat.lt_trichotomy j i with q | q | q
        · exact absurd (e2.trans e1.symm) (List.pairwise_iff_getElem.mp h.nd j i h2 h1 q)
        · exact q
        · exact absurd (e1.trans e2.symm) (List.pairwise_iff_getElem.mp h.nd i j h1 h2 q))
      rw [aq Lc, if_neg z]; exact h.rows j c hc
  · by_cases z : b = a
    · subst z
      rw [updM_same] at e
      cases row with
      | nil => cases bs with
        | nil => exact .inr (.inr rfl)
        | cons c bs => simp at e
      | cons x row => cases bs with
        | nil => exact .inr (.inr rfl)
        | cons c bs => simp at e
    · rw [aq z] at e; exact h.ptr b bs e
theorem fK.full {M0 M : Mh} {r : Addr} {as : List Addr} {n ways : Nat} {L : Nat → Nat} (h : fK M0 M r as n L) (hL : ∀ i, i < n → L i = ways) : ej M0 M r as n ways := by
  refine ⟨h.own.kp, h.r0, h.rm, h.fr, h.len, fun a ha => ?_, fun b o e => ?_⟩
  · obtain ⟨i, hi⟩ := List.mem_iff_getElem?.mp ha
    obtain ⟨row, e, o⟩ := h.rows i a hi
    rw [hL i (by rw [← h.len]; exact (List.getElem?_eq_some_iff.mp hi).1)] at o
    exact ⟨row, e, o⟩
  · rcases h.own.pin b o e with q | q | ⟨bs, rfl, q2⟩
    · exact .inl q
    · exact .inr (.inr (.inl q))
    · rcases h.ptr b bs e with z | z | z
      · exact .inr (.inl z)
      · exact .inl z
      · subst z; exact .inr (.inr (.inl ⟨[], rfl⟩))
theorem fK.ue {M0 M : Mh} {r : Addr} {as : List Addr} {n : Nat} {L L' : Nat → Nat} (h : fK M0 M r as n L) (e : ∀ i, i < n → L i = L' i) : fK M0 M r as n L' :=
  ⟨h.own, h.r0, h.rm, h.fr, h.nd, h.len, fun i a ha => by
    have := h.rows i a ha
    rwa [e i (by rw [← h.len]; exact (List.getElem?_eq_some_iff.mp ha).1)] at this, h.ptr⟩
theorem cF.nodup {n : Nat} {os : List Int} (h : cF n os) : os.Nodup := by
  refine h.perm.nodup_iff.mpr ?_
  exact List.pairwise_map.mpr (List.nodup_range.imp fun h e => h (by omega))
theorem cF.prev {n : Nat} {os : List Int} (h : cF n os) {k : Nat} (hk : k < n) : ∃ p : Nat, cB (os.map Dv.int) ((k : Int) - 1) = some (.int (p : Nat)) ∧ p < n := by
  have hl := h.len
  obtain ⟨j, hj, e⟩ : ∃ j : Nat, j < n ∧ fA n ((k : Int) - 1) = some j := by
    unfold fA
    by_cases z : k = 0
    · exact ⟨n - 1, by omega, by rw [if_neg (by omega), if_pos (by omega)]; congr 1; omega⟩
    · exact ⟨k - 1, by omega, by rw [if_pos (by omega), if_pos (by omega)]; congr 1; omega⟩
  have HB : j < os.length := by omega
  obtain ⟨g0, g1⟩ := h.mem (List.getElem_mem HB)
  refine ⟨os[j].toNat, ?_, by omega⟩
  unfold cB
  rw [List.length_map, hl, e]
  show (os.map Dv.int)[j]? = _
  rw [List.getElem?_map, List.getElem?_eq_getElem HB]
  show some (Dv.int os[j]) = _
  congr 2
  omega
theorem A1 (x : Int) (k : Nat) : (List.replicate k [Dv.int x]).flatten = (List.replicate k x).map Dv.int := by
  induction k with
  | zero => rfl
  | succ k ih => rw [List.replicate_succ, List.flatten_cons, ih, List.replicate_succ]; rfl
theorem uf {f f1 f2 : Addr} {fd aL fd2 : FuncData} (D : Df K mg "_law_net" dy ["_law_bag_here", "_law_most"] f fd)
    (ah : Df K mg "_law_take" cX ["_law_bag_here", "_law_many"] f1 aL) (aW : FnOk P w K mg base b9 1 f1 aL ["_law_bag_here", "_law_many"] (aB P w K tb mO))
    (dh : Df K mg "_law_order" fJ ["_law_bag_here", "_law_many"] f2 fd2) (qP : FnOk P w K mg base b9 2 f2 fd2 ["_law_bag_here", "_law_many"] (aB P w K tb wA)) (bl : Bl mg) : FnOk P w K mg base b9 3 f fd ["_law_bag_here", "_law_most"] (aB P w K tb zQ) := by
  refine gZ D a9 (fun ds M Q E hS => by obtain ⟨b, n, e, _⟩ := hS; rw [e]; rfl) fun A outer s E Γ ds Q' E' hP hw hK ht hr hS => ?_
  obtain ⟨b, most, e, hb, h1, h9, q⟩ := hS
  refine ⟨_, (aj (aU (i := 2) a9.nd rfl (Or.inl rfl) (aI eT ai (ax aW (hr.mono (by decide)) rfl ah.mg ah.fn.kp ah.bd bH hP hw hK ht XR.none (aa (qv 0) (aa (qv 1) ae)))))
    (aj (aU (i := 3) a9.nd rfl (Or.inl rfl) (aI eT ai (ax aW (hr.mono (by decide)) rfl ah.mg ah.fn.kp ah.bd bH hP hw hK ht XR.none (aa (qv 0) (aa ai ae)))))
    (aj (aU (i := 4) a9.nd rfl (Or.inl rfl) (ax aW (hr.mono (by decide)) rfl ah.mg ah.fn.kp ah.bd bH hP hw hK ht XR.none (aa (qv 0) (aa ai ae))))
    (aj (aU (i := 5) a9.nd rfl (Or.inr rfl) ai)
    (aj (bJ (bC lr (qv 4) ai (bN _))
      (aj (aU (i := 5) a9.nd rfl (Or.inr rfl) (aS (qB rfl) rfl bl.min_ p7 (aa (aI eT ai (ax aW (hr.mono (by decide)) rfl ah.mg ah.fn.kp ah.bd bH hP hw hK ht XR.none (aa (qv 0) (aa ai ae)))) (aa (qv 2) ae))))
    (au (aU (i := 2) a9.nd rfl (Or.inl rfl) (aI jh (aI qz (qv 2) (qv 5)) (qv 5)))))
      qss_nil)
    (aj (aU (i := 6) a9.nd rfl (Or.inr rfl) (ax qP (hr.mono (by decide)) rfl dh.mg dh.fn.kp dh.bd bH hP hw hK ht XR.none (aa (qv 0) (aa (qv 2) ae))))
    (aj (rJ (i := 7) a9.nd rfl rfl (N' := ["_law_place"]) (tn := 1) (idx := []) rfl (show bf ["_law_bag_here", "_law_most", "_law_many", "_law_fans", "_law_kind", "_law_lap", "_law_order_here", "_law_rows", "_law_k", "_law_goals", "_law_fan"] (ak dy) _ ["_law_place"] 1 [] from by decide +kernel) (cD rfl bl.range_ (aa (qv 2) ae)) (fun _ _ _ _ _ => (bT (i := 0) (show List.Nodup [("_law_place" : Str)] from by decide +kernel) rfl (Or.inl rfl))) (fun _ _ _ _ _ => iW) (fun _ _ _ _ _ => (km ae)))
    (aj (fG PassesOwn.never rfl (cD rfl bl.range_ (aa (qv 2) ae)) (fun mL eP ew eK et => by have hP := hP.trans eP.symm; have hw := hw.trans ew.symm; have hK := hK.trans eK.symm; have ht := ht.trans et.symm; exact ⟨(bT (i := 8) a9.nd rfl (Or.inr rfl)), (aj (t7 (i := 9) a9.nd rfl rfl (N' := ["_law_j", "_law_order_here", "_law_lap", "_law_k"]) (tn := 1) (idx := [6, 5, 8]) rfl (show bf ["_law_bag_here", "_law_most", "_law_many", "_law_fans", "_law_kind", "_law_lap", "_law_order_here", "_law_rows", "_law_k", "_law_goals", "_law_fan"] (ak dy) _ ["_law_j", "_law_order_here", "_law_lap", "_law_k"] 1 [6, 5, 8] from by decide +kernel) (cD rfl bl.range_ (aa (qv 2) ae)) (fun _ _ _ _ _ => (bT (i := 0) (show List.Nodup [("_law_j" : Str), ("_law_order_here" : Str), ("_law_lap" : Str), ("_law_k" : Str)] from by decide +kernel) rfl (Or.inl rfl))) (fun _ _ _ _ _ => (AR (bC lr (aI iq (qv 0) (qv 2)) (aI iq (aI eT (qv 3) ai) (qv 2)) (bN _)))) (fun _ _ _ _ _ => (bc (bR (K := K) rfl) (qv 1) (qv 0) (fun _ _ => rfl))))
    (au (fG PassesOwn.never rfl (cD rfl bl.range_ (aa (qv 3) ae)) (fun mL eP ew eK et => by have hP := hP.trans eP.symm; have hw := hw.trans ew.symm; have hK := hK.trans eK.symm; have ht := ht.trans et.symm; exact ⟨(bT (i := 10) a9.nd rfl (Or.inl rfl)), (au (aY (pz (K := K) rfl PySem.F.plainAttrs_list PySem.F.slot_list_append PySem.F.type_list_append lx (bc (bR (K := K) rfl) (qv 7) (bc (bR (K := K) rfl) (qv 6) (qv 8) (fun _ _ => rfl)) (fun _ _ => rfl)) (aa (bc (bR (K := K) rfl) (qv 9) (ax aW (hr.mono (by decide)) rfl ah.mg ah.fn.kp ah.bd bH hP hw hK ht XR.none (aa (qv 0) (aa (aS (eU (K := K) rfl hK) rfl bl.len_ PySem.boot_len (aa (qv 9) ae)) ae))) (fun _ _ => rfl)) ae))))⟩))))⟩))
    (aj (bJ (bC DY (qv 4) ai (bN _))
      (au (fG PassesOwn.never rfl (cD rfl bl.range_ (aa (qv 2) ae)) (fun mL eP ew eK et => by have hP := hP.trans eP.symm; have hw := hw.trans ew.symm; have hK := hK.trans eK.symm; have ht := ht.trans et.symm; exact ⟨(bT (i := 8) a9.nd rfl (Or.inr rfl)), (au (jU (bc (bR (K := K) rfl) (qv 6) (qv 8) (fun _ _ => rfl)) (jX (bc (bR (K := K) rfl) (qv 7) (bc (bR (K := K) rfl) (qv 6) (aI jg (qv 8) ai) (fun _ _ => rfl)) (fun _ _ => rfl)) (ax aW (hr.mono (by decide)) rfl ah.mg ah.fn.kp ah.bd bH hP hw hK ht XR.none (aa (qv 0) (aa (qv 3) ae))))))⟩)))
      qss_nil)
    (aj (bJ (bC lr (qv 4) ai (bN _))
      (aj (fG PassesOwn.never rfl (cD rfl bl.range_ (aa (qv 2) ae)) (fun mL eP ew eK et => by have hP := hP.trans eP.symm; have hw := hw.trans ew.symm; have hK := hK.trans eK.symm; have ht := ht.trans et.symm; exact ⟨(bT (i := 8) a9.nd rfl (Or.inr rfl)), (au (jU (aI Ej (cT (aa (bc (bR (K := K) rfl) (qv 6) (qv 8) (fun _ _ => rfl)) ae)) (qv 3)) (jX (qv 7) (bc (bR (K := K) rfl) (qv 6) (aI jg (qv 8) ai) (fun _ _ => rfl)))))⟩))
    (au (jU (ax aW (hr.mono (by decide)) rfl ah.mg ah.fn.kp ah.bd bH hP hw hK ht XR.none (aa (qv 0) (aa (qv 2) ae))) (jX (bc (bR (K := K) rfl) (qv 7) ai (fun _ _ => rfl)) ai))))
      qss_nil)
    (au (wg 7 rfl (bD (fq (nj (K := K) rfl) rfl bl.tuple_ gT (aa (kX (N' := ["_law_row"]) (tn := 1) (idx := []) rfl (show bf ["_law_bag_here", "_law_most", "_law_many", "_law_fans", "_law_kind", "_law_lap", "_law_order_here", "_law_rows", "_law_k", "_law_goals", "_law_fan"] (ak dy) _ ["_law_row"] 1 [] from by decide +kernel) (AK (K := K) rfl (qv 7)) (fun _ _ _ _ _ => (bT (i := 0) (show List.Nodup [("_law_row" : Str)] from by decide +kernel) rfl (Or.inl rfl))) (fun _ _ _ _ _ => iW) (fun _ _ _ _ _ => (fq (nj (K := K) rfl) rfl bl.tuple_ gT (aa (qv 0) ae)))) ae))))))))))))))), ?_⟩
  subst e
  have big : (100 : Nat) < sizeLine := by decide
  refine Gg (fun ρ M => M = Γ.M0 ∧ ∃ (n ways kind cp : Nat), ρ = [some (.ptr b), some (.int (most : Nat)), some (.int (n : Nat)), some (.int (ways : Nat)), some (.int (kind : Nat)), some (.int (cp : Nat)), none, none, none, none, none] ∧ 1 ≤ n ∧ n ≤ most ∧ (ways = 2 ∨ ways = 3) ∧ 1 ≤ cp ∧ cp ≤ n) (fun N hN => ?_) ?_
  · simp! only []
    refine ⟨b, _, rfl, hb, by omega, by omega, fun m hm => ?_⟩
    obtain ⟨n, hn⟩ : ∃ n : Nat, (1 + (m : Int)) = (n : Nat) := ⟨1 + m, by omega⟩
    have n1 : 1 ≤ n := by omega
    have n9 : n ≤ most := by omega
    simp! only [hn]
    refine ⟨b, _, rfl, hb, by omega, by omega, fun v hv => ?_⟩
    obtain ⟨ways, Gi⟩ : ∃ ways : Nat, (2 + (v : Int)) = (ways : Nat) := ⟨2 + v, by omega⟩
    have w2 : ways = 2 ∨ ways = 3 := by omega
    simp! only [Gi]
    refine ⟨b, _, rfl, hb, by omega, by omega, fun kind pj => ?_⟩
    simp! only []
    refine dN (fun h => ?_) (fun h => hN _ _ ⟨rfl, n, ways, kind, 1, rfl, n1, n9, w2, by omega, n1⟩)
    refine ⟨b, _, rfl, hb, by omega, by omega, fun t ht => ?_⟩
    obtain ⟨cp, Jn, l1, ln⟩ : ∃ cp : Nat, (if (n : Int) < 2 + (t : Int) then (n : Int) else 2 + (t : Int)) = (cp : Nat) ∧ 1 ≤ cp ∧ cp ≤ n := by
      by_cases z : (n : Int) < 2 + (t : Int)
      · exact ⟨n, by rw [if_pos z], n1, Nat.le_refl _⟩
      · exact ⟨2 + t, by rw [if_neg z]; omega, by omega, by omega⟩
    simp only [Jn]
    have en : (n : Int) / (cp : Int) * (cp : Int) = ((n / cp * cp : Nat) : Int) := by push_cast; rfl
    have d1 : n / cp * cp ≤ n := Nat.div_mul_le_self n cp
    have d2 : cp ≤ n / cp * cp := by
      have : 1 ≤ n / cp := Nat.div_pos ln (by omega)
      exact Nat.le_mul_of_pos_left cp this
    rw [en]
    exact ⟨⟨by omega, by omega⟩, .inr ⟨by omega, by omega⟩, hN _ _ ⟨rfl, n / cp * cp, ways, kind, cp, rfl, by omega, by omega, w2, l1, d2⟩⟩
  rintro ρ M ⟨rfl, n, ways, kind, cp, rfl, n1, n9, w2, l1, ln⟩
  refine Ge (fun ρ M => ∃ (r : Addr) (as : List Addr) (os : List Int) (x8 x9 gj : Option Dv), (d6 x8 ∧ d6 x9 ∧ d6 gj) ∧ ρ = [some (.ptr b), some (.int (most : Nat)), some (.int (n : Nat)), some (.int (ways : Nat)), some (.int (kind : Nat)), some (.int (cp : Nat)), some (g6 os), some (.ptr r), x8, x9, gj] ∧ ej Γ.M0 M r as n ways ∧ cF n os) (fun N hN => ?_) ?_
  · simp! only []
    refine ⟨b, n, rfl, hb, by omega, fun os dP => ?_⟩
    have Dz := dP.len
    simp! only []
    refine ⟨by omega, by omega, by omega, jk (acc := []) (fun acc τ M => ∃ as : List Addr, acc = as.map Dv.ptr ∧ (∃ x, τ = [x]) ∧ lz Γ.M0 M ∧ as.Nodup ∧ (∀ a ∈ as, Γ.M0 a = none ∧ M a = some (.lst [])) ∧ ∀ c (bs : List Addr), M c = some (.lst (bs.map .ptr)) → Γ.M0 c = some (.lst (bs.map .ptr)) ∨ bs = []) ⟨[], rfl, ⟨_, rfl⟩, .refl, .nil, (fun _ h => nomatch h), fun c bs e => .inl e⟩ (fun i d acc τ M hd _ hJ R hR => ?_) (fun ys τ M hl hJ => ?_)⟩
    · obtain ⟨as, rfl, ⟨x, rfl⟩, hO, Es, ha, hp⟩ := hJ
      simp! only []
      refine ⟨by omega, fun a hn => hR _ _ _ ⟨as ++ [a], by rw [List.map_append]; rfl, ⟨_, rfl⟩, hO.row hn [], ?_, fun c hc => ?_, fun c bs e => ?_⟩⟩
      · rw [List.nodup_append]
        refine ⟨Es, by simp, fun x hx y hy e => ?_⟩
        rw [List.mem_singleton] at hy
        subst e hy
        rw [(ha _ hx).2] at hn; cases hn
      · rcases List.mem_append.mp hc with z | z
        · obtain ⟨q1, q2⟩ := ha c z
          have ne : c ≠ a := fun q => by rw [q, hn] at q2; cases q2
          exact ⟨q1, by rw [aq ne]; exact q2⟩
        · rw [List.mem_singleton] at z
          subst z
          exact ⟨gF hO.kp hn, updM_same⟩
      · by_cases z : c = a
        · subst z
          rw [updM_same] at e
          cases bs with
          | nil => exact .inr rfl
          | cons y bs => simp at e
        · rw [aq z] at e; exact hp c bs e
    · obtain ⟨as, e1, ⟨x, rfl⟩, hO, Es, ha, hp⟩ := hJ
      rw [List.nil_append] at e1
      subst e1
      intro r Et
      have Jo : as.length = n := by simpa [rangeD_len] using hl
      have ne : ∀ {c o}, M c = some o → c ≠ r := fun e z => by rw [z, Et] at e; cases e
      have RF : fK Γ.M0 (az M r (.lst (as.map .ptr))) r as n fun _ => 0 := by
        refine ⟨⟨.upd (gF hO.kp Et) hO.kp, fun c o e => ?_⟩, gF hO.kp Et, updM_same, fun a h => ⟨(ha a h).1, ne (ha a h).2⟩, Es, Jo, fun i a h => ?_, fun c bs e => ?_⟩
        · by_cases z : c = r
          · subst z; rw [updM_same] at e; cases e
            exact .inr (.inr ⟨as, rfl, fun a h => ⟨_, by rw [aq (ne (ha a h).2)]; exact (ha a h).2⟩⟩)
          · rw [aq z] at e
            rcases hO.pin c o e with q | q | ⟨bs, q1, q2⟩
            · exact .inl q
            · exact .inr (.inl q)
            · refine .inr (.inr ⟨bs, q1, fun y hy => ?_⟩)
              obtain ⟨u, hu⟩ := q2 y hy
              exact ⟨u, by rw [aq (ne hu)]; exact hu⟩
        · have hm := ha a (List.mem_of_getElem? h)
          exact ⟨[], by rw [aq (ne hm.2)]; exact hm.2, rfl, fun _ h => nomatch h⟩
        · by_cases z : c = r
          · exact .inl z
          · rw [aq z] at e; exact .inr (hp c bs e)
      refine ⟨by omega, by omega, ?_⟩
      refine dm (fun i ρ M => ∃ x8 x9 gj, (d6 x8 ∧ d6 x9 ∧ d6 gj) ∧ ρ = [some (.ptr b), some (.int (most : Nat)), some (.int (n : Nat)), some (.int (ways : Nat)), some (.int (kind : Nat)), some (.int (cp : Nat)), some (g6 os), some (.ptr r), x8, x9, gj] ∧ fK Γ.M0 M r as n (fun j => if ((j : Nat) : Int) ∈ os.take i then ways else 0))
        ⟨_, _, _, ⟨.none, .none, .none⟩, rfl, RF.ue fun i _ => by simp⟩ (fun i d ρ M N2 hd hJ mM => ?_) (fun ρ M hJ => ?_)
      · obtain ⟨x8, x9, gj, ⟨p8, p9, oE⟩, rfl, RF⟩ := hJ
        obtain ⟨rfl, hi⟩ := cU hd
        have zV : i < os.length := by omega
        obtain ⟨g0, g1⟩ := dP.mem (List.getElem_mem zV)
        obtain ⟨pk, Eu⟩ := Int.eq_ofNat_of_zero_le g0
        have HC : pk < n := by omega
        have iS : cB (os.map Dv.int) ((i : Nat) : Int) = some (.int (pk : Nat)) := bS (by rw [List.getElem?_map, List.getElem?_eq_getElem zV, Eu]; rfl)
        have Ew : pk < as.length := by omega
        have Ld : cB (as.map Dv.ptr) ((pk : Nat) : Int) = some (.ptr as[pk]) := bS (by rw [List.getElem?_map, List.getElem?_eq_getElem Ew]; rfl)
        have HD : as[pk]? = some as[pk] := List.getElem?_eq_getElem Ew
        have Jp : ((pk : Nat) : Int) ∉ os.take i := fun z => by
          obtain ⟨j, hj, e⟩ := List.mem_iff_getElem.mp z
          rw [List.getElem_take, ← Eu] at e
          rw [List.length_take] at hj
          exact List.pairwise_iff_getElem.mp dP.nodup j i (by omega) zV (by omega) e
        simp! only []
        refine ⟨by omega, by omega, by omega, ny (yr cp i) (fun d => .int (mP os d)) (fun τ M' => (∃ x, τ = [x, some (g6 os), some (.int (cp : Nat)), some (.int (i : Nat))]) ∧ M' = M) ⟨⟨_, rfl⟩, rfl⟩ (fun d hd τ M' hI R0 R h1 h2 => ?_) (fun τ M' hI => ?_)⟩
        · obtain ⟨⟨x, rfl⟩, rfl⟩ := hI
          obtain ⟨j, hj, rfl⟩ := mG hd
          simp only [Int.zero_add] at h1 h2 ⊢
          obtain ⟨gx, zU, g0, g1⟩ := dP.at hj
          have hg : mP os (.int (j : Nat)) = gx := qO zU
          simp! only [zU]
          refine ⟨by omega, by omega, dN (fun h => ?_) (fun h => ?_)⟩
          · rw [hg] at h1
            exact h1 h _ _ ⟨⟨_, rfl⟩, rfl⟩
          · exact h2 h _ _ ⟨⟨_, rfl⟩, rfl⟩
        · obtain ⟨⟨x, rfl⟩, rfl⟩ := hI
          obtain ⟨gs, Le, Mj, Mk, Lf⟩ := yt (i := i) dP (per := cp) (by omega) (by omega)
          rw [Le]
          refine ⟨by omega, by omega, ?_⟩
          refine dm (fun f ρ M => (∃ gj, d6 gj ∧ ρ = [some (.ptr b), some (.int (most : Nat)), some (.int (n : Nat)), some (.int (ways : Nat)), some (.int (kind : Nat)), some (.int (cp : Nat)), some (g6 os), some (.ptr r), some (.int (i : Nat)), some (g6 gs), gj]) ∧ fK Γ.M0 M r as n (fun j => if j = pk then f else if ((j : Nat) : Int) ∈ os.take i then ways else 0))
            ⟨⟨_, oE, rfl⟩, RF.ue fun j _ => by
              by_cases z : j = pk
              · subst z; rw [if_neg Jp, if_pos rfl]
              · rw [if_neg z]⟩ (fun f d ρ M N3 hd hJ Lg => ?_) (fun ρ M hJ => ?_)
          · obtain ⟨⟨gj, oE, rfl⟩, RF⟩ := hJ
            obtain ⟨rfl, hf⟩ := cU hd
            obtain ⟨row, em, ro⟩ := RF.rows pk _ HD
            rw [if_pos rfl] at ro
            simp! only [iS, RF.rm, Ld, em]
            refine ⟨b, _, rfl, RF.own.kp _ _ hb, by omega, by omega, fun t ht => ?_⟩
            have HE : t < gs.length := by omega
            simp only [show cB (gs.map Dv.int) (t : Int) = some (.int gs[t]) from bS (by rw [List.getElem?_map, List.getElem?_eq_getElem HE]; rfl), em, List.length_map, ro.1]
            have Lh := Lf _ (List.getElem_mem HE)
            have er : row.map Dv.int ++ [Dv.int gs[t]] = (row ++ [gs[t]]).map Dv.int := by rw [List.map_append]; rfl
            rw [er]
            refine ⟨by omega, Lg _ _ ⟨⟨_, .int _, rfl⟩, (RF.set HD (row := row ++ [gs[t]]) (m := f + 1) ⟨by rw [List.length_append, ro.1]; rfl, fun y hy => ?_⟩).ue fun j _ => ?_⟩⟩
            · rcases List.mem_append.mp hy with z | z
              · exact ro.2 y z
              · rw [List.mem_singleton.mp z]; exact Lh
            · by_cases z : j = pk
              · rw [if_pos z, if_pos z]
              · rw [if_neg z, if_neg z, if_neg z]
          · obtain ⟨⟨gj, oE, rfl⟩, RF⟩ := hJ
            rw [rangeD_len] at RF
            refine mM _ _ ⟨_, _, _, ⟨.int _, .lI gs, oE⟩, rfl, RF.ue fun j _ => ?_⟩
            have m9 : ((j : Nat) : Int) ∈ os.take (i + 1) ↔ ((j : Nat) : Int) ∈ os.take i ∨ j = pk := by
              rw [List.take_add_one, List.mem_append, List.getElem?_eq_getElem zV, Eu]
              constructor
              · rintro (z | z)
                · exact .inl z
                · have : ((j : Nat) : Int) = (pk : Nat) := by simpa using z
                  exact .inr (by omega)
              · rintro (z | z)
                · exact .inl z
                · exact .inr (by simp [z])
            by_cases z : j = pk
            · rw [if_pos z, if_pos (m9.mpr (.inr z))]
            · rw [if_neg z]
              by_cases y : ((j : Nat) : Int) ∈ os.take i
              · rw [if_pos y, if_pos (m9.mpr (.inl y))]
              · rw [if_neg y, if_neg (fun q => (m9.mp q).elim y z)]
      · obtain ⟨x8, x9, gj, ⟨p8, p9, oE⟩, rfl, RF⟩ := hJ
        rw [rangeD_len] at RF
        refine hN _ _ ⟨r, as, os, _, _, _, ⟨p8, p9, oE⟩, rfl, RF.full fun j hj => ?_, dP⟩
        rw [List.take_of_length_le (by omega), if_pos (dP.perm.mem_iff.mpr (List.mem_map.mpr ⟨j, List.mem_range.mpr hj, rfl⟩))]
  rintro ρ M ⟨r, as, os, x8, x9, gj, ⟨p8, p9, oE⟩, rfl, RM, dP⟩
  have Dz := dP.len
  have Ez : ∀ {as : List Addr} {M : Mh} {p : Nat}, ej Γ.M0 M r as n ways → p < n → ∃ a, cB (as.map Dv.ptr) ((p : Nat) : Int) = some (.ptr a) ∧ a ∈ as := fun {as M p} RM hp => by
    have hl : p < as.length := by rw [RM.len]; exact hp
    exact ⟨as[p], bS (by rw [List.getElem?_map, List.getElem?_eq_getElem hl]; rfl), List.getElem_mem hl⟩
  refine zN (fun ρ M => ∃ (as : List Addr) (x8 : Option Dv), d6 x8 ∧ ρ = [some (.ptr b), some (.int (most : Nat)), some (.int (n : Nat)), some (.int (ways : Nat)), some (.int (kind : Nat)), some (.int (cp : Nat)), some (g6 os), some (.ptr r), x8, x9, gj] ∧ ej Γ.M0 M r as n ways) (fun N hN => ?_) ?_
  · simp! only []
    refine dN (fun h => ⟨by omega, by omega, ?_⟩) (fun _ => hN _ _ ⟨as, _, p8, rfl, RM⟩)
    refine dm (fun i ρ M => ∃ (as : List Addr) (x8 : Option Dv), d6 x8 ∧ ρ = [some (.ptr b), some (.int (most : Nat)), some (.int (n : Nat)), some (.int (ways : Nat)), some (.int (kind : Nat)), some (.int (cp : Nat)), some (g6 os), some (.ptr r), x8, x9, gj] ∧ ej Γ.M0 M r as n ways) ⟨as, _, p8, rfl, RM⟩ (fun i d ρ M N2 hd hJ mM => ?_) (fun ρ M hJ => hN _ _ hJ)
    obtain ⟨as, x8, p8, rfl, RM⟩ := hJ
    obtain ⟨rfl, hi⟩ := cU hd
    obtain ⟨p, hp, pn⟩ := dP.prev hi
    obtain ⟨g, hg, g0, g1⟩ := dP.at hi
    obtain ⟨a, ea, ha⟩ := Ez RM pn
    obtain ⟨row, em, ro⟩ := RM.row a ha
    simp! only [hg, hp, RM.rm, ea]
    refine ⟨b, _, rfl, RM.kp _ _ hb, by omega, by omega, fun t ht => ?_⟩
    simp only [em, List.length_map, ro.1, nD (show t < ways by omega)]
    rw [qN]
    exact mM _ _ ⟨as, _, .int _, rfl, RM.Er ha (ro.set g0 g1)⟩
  rintro ρ M ⟨as, x8, p8, rfl, RM⟩
  refine zN (fun ρ M => ∃ (as : List Addr) (x8 : Option Dv), d6 x8 ∧ ρ = [some (.ptr b), some (.int (most : Nat)), some (.int (n : Nat)), some (.int (ways : Nat)), some (.int (kind : Nat)), some (.int (cp : Nat)), some (g6 os), some (.ptr r), x8, x9, gj] ∧ ej Γ.M0 M r as n ways) (fun N hN => ?_) ?_
  · simp! only []
    refine dN (fun h => ⟨by omega, by omega, ?_⟩) (fun _ => hN _ _ ⟨as, _, p8, rfl, RM⟩)
    refine dm (fun i ρ M => ∃ (as : List Addr) (x8 : Option Dv), d6 x8 ∧ ρ = [some (.ptr b), some (.int (most : Nat)), some (.int (n : Nat)), some (.int (ways : Nat)), some (.int (kind : Nat)), some (.int (cp : Nat)), some (g6 os), some (.ptr r), x8, x9, gj] ∧ ej Γ.M0 M r as n ways) ⟨as, _, p8, rfl, RM⟩ (fun i d ρ M N2 hd hJ mM => ?_) (fun ρ M hJ => ?_)
    · obtain ⟨as, x8, p8, rfl, RM⟩ := hJ
      obtain ⟨rfl, hi⟩ := cU hd
      obtain ⟨p, hp, pn⟩ := dP.prev hi
      obtain ⟨g, hg, g0, g1⟩ := dP.at hi
      simp! only [hg, hp]
      refine ⟨by omega, ⟨by omega, by omega, by omega⟩, fun a sI => ?_⟩
      have nr : r ≠ a := fun z => by rw [← z, RM.rm] at sI; cases sI
      rw [A1]
      simp only [aq nr, RM.rm, List.length_map, RM.len, nD pn]
      exact mM _ _ ⟨_, _, .int _, rfl, RM.put sI ⟨by rw [List.length_replicate], fun x hx => by rw [List.eq_of_mem_replicate hx]; exact ⟨g0, g1⟩⟩ pn⟩
    · obtain ⟨as, x8, p8, rfl, RM⟩ := hJ
      obtain ⟨a, ea, ha⟩ := Ez RM (p := 0) (by omega)
      have ea : cB (as.map Dv.ptr) 0 = some (.ptr a) := ea
      obtain ⟨row, em, ro⟩ := RM.row a ha
      simp! only []
      refine ⟨b, _, rfl, RM.kp _ _ hb, by omega, by omega, fun t ht => ?_⟩
      simp! only [RM.rm, ea, em, ro.1, show fA ways 0 = some 0 from nD (d := 0) (by omega)]
      rw [qN]
      exact hN _ _ ⟨as, _, p8, rfl, RM.Er ha (ro.set (by omega) (by omega))⟩
  rintro ρ M ⟨as, x8, p8, rfl, RM⟩
  have nb : ∀ {c o}, Γ.M0 c = some o → c ≠ r := fun e z => by rw [z, RM.r0] at e; cases e
  have dk : Keeps Γ.M0 (cn M r) := fun c o e => by rw [cu (nb e)]; exact RM.kp c o e
  refine .inr ⟨r, _, rfl, RM.rm, RM.r0, ⟨fun j d e => ?_, fun c o e => ?_⟩, ?_⟩
  · match j, e with
    | 0, e => cases e; exact .ptr (by rw [dk _ _ hb]; rfl)
    | 1, e => cases e; exact .int _
    | 2, e => cases e; exact .int _
    | 3, e => cases e; exact .int _
    | 4, e => cases e; exact .int _
    | 5, e => cases e; exact .int _
    | 6, e => cases e; exact .lst (dX _)
    | 7, e => cases e; exact .lst fun d hd => by
                obtain ⟨a, ha, rfl⟩ := List.mem_map.mp hd
                obtain ⟨row, em, _⟩ := RM.row a ha
                exact .ptr (by rw [cu (RM.fr a ha).2, em]; rfl)
    | 8, e => exact p8 _ _ (Option.some.inj e)
    | 9, e => exact p9 _ _ (Option.some.inj e)
    | 10, e => exact oE _ _ (Option.some.inj e)
    | j + 11, e => exact nomatch e
  · have nc : c ≠ r := fun z => by rw [z, du] at e; cases e
    rw [cu nc] at e
    rcases RM.pin c o e with q | q | ⟨row, rfl⟩ | ⟨bs, rfl, q2⟩
    · exact .inl q
    · exact absurd q nc
    · exact .inr (dX row)
    · refine .inr fun d hd => ?_
      obtain ⟨a, ha, rfl⟩ := List.mem_map.mp hd
      obtain ⟨h1, u, h2⟩ := q2 a ha
      exact .ptr (by rw [cu h1, h2]; rfl)
  · simp! only []
    refine ⟨by rw [RM.len]; omega, jk (acc := []) (fun acc τ M' => ∃ rs : List (List Int), acc = rs.map eI ∧ (∃ x, τ = [x]) ∧ (∀ row ∈ rs, gE n ways row) ∧ M' = cn M r) ⟨[], rfl, ⟨_, rfl⟩, (fun _ h => nomatch h), rfl⟩ (fun i d acc τ M' hd _ ⟨rs, e1, ⟨x, e2⟩, zW, eM⟩ R hR => ?_) (fun ys τ M' hl ⟨rs, e1, ⟨x, e2⟩, zW, eM⟩ => ?_)⟩
    · subst e1 e2 eM
      obtain ⟨a, ha, rfl⟩ := D9 hd
      have ha := List.mem_of_getElem? ha
      obtain ⟨row, em, ro⟩ := RM.row a ha
      simp! only [cu (RM.fr a ha).2, em]
      refine hR _ _ _ ⟨rs ++ [row], by rw [List.map_append]; rfl, ⟨_, rfl⟩, fun c hc => ?_, rfl⟩
      rcases List.mem_append.mp hc with z | z
      · exact zW c z
      · rw [List.mem_singleton] at z; rw [z]; exact ro
    · rw [List.nil_append] at e1
      subst e1 e2 eM
      have Li : rs.length = n := by rw [List.length_map, List.length_map, RM.len] at hl; exact hl
      exact wc dk (v8 rs) (q rs ways ⟨by omega, by omega, w2, fun row hr => ⟨(zW row hr).1, fun g hg => by rw [Li]; exact (zW row hr).2 g hg⟩⟩ (by omega))
end
section
variable {P : Program} {w : World} {K : PySem.W.Frag} {mg : Str → Option Value} {base : Heap} {tb : eG}
theorem rO : aG ["thing"] ["thing"] (ak dw) := ⟨rfl, rfl, rfl, by decide +kernel, rfl, by decide +kernel, by decide +kernel⟩
theorem kD : aG ["thing", "many"] ["thing", "many"] (ak bU) := ⟨rfl, rfl, rfl, by decide +kernel, rfl, by decide +kernel, by decide +kernel⟩
theorem wB : aG ["thing", "many", "width"] ["thing", "many", "width"] (ak g8) := ⟨rfl, rfl, rfl, by decide +kernel, rfl, by decide +kernel, by decide +kernel⟩
theorem j1 : aG ["thing", "many", "width"] ["thing"] (ak g9) := ⟨rfl, rfl, rfl, by decide +kernel, rfl, by decide +kernel, by decide +kernel⟩
noncomputable def j4 (d : Dv) : Bool := (isD "int" (fun _ => none) d).isSome
noncomputable def wC : Dv → Bool | .int _ => true | _ => false
noncomputable def cI (m : Int) : Dv → Bool | .int i => decide (0 ≤ i) && decide (i < m) | _ => false
noncomputable def EA : dM := fun ds M Q _ => ∃ d, ds = [d] ∧ j4 d = true ∧ Q (.bl (wC d)) M
theorem rP {f : Addr} {fd : FuncData} (D : Df K mg "is_whole" dw ["thing"] f fd) (bl : Bl mg) : FnOk P w K mg base b9 1 f fd ["thing"] (aB P w K tb EA) := by
  refine gZ D rO (fun ds M Q E hS => by obtain ⟨d, e, _⟩ := hS; rw [e]; rfl) fun A outer s E Γ ds Q' E' hP hw hK ht hr hS => ?_
  obtain ⟨d, e, hk, q⟩ := hS
  refine ⟨_, (au (bD (qy (aS (jj (K := K) rfl) rfl bl.isinstance_ cq (aa (qv 0) (aa (iV (v := .ty "int") rfl bl.int_ Dn rfl) ae))) (qw (DS (aS (jj (K := K) rfl) rfl bl.isinstance_ cq (aa (qv 0) (aa (iV (v := .ty "bool") rfl bl.bool_ Aw rfl) ae)))))))), ?_⟩
  subst e
  cases d <;> first | exact ⟨by decide, ⟨by decide, .inl q⟩⟩ | exact ⟨by decide, .inl q⟩ | exact nomatch hk
noncomputable def EB : dM := fun ds M Q _ => ∃ d m, ds = [d, .int m] ∧ j4 d = true ∧ Q (.bl (cI m d)) M
theorem gA {f f1 : Addr} {fd aL : FuncData} (D : Df K mg "is_whole_below" bU ["thing", "many"] f fd) (bu : Df K mg "is_whole" dw ["thing"] f1 aL) (bl : Bl mg) : FnOk P w K mg base b9 2 f fd ["thing", "many"] (aB P w K tb EB) := by
  have ug := rP (P := P) (w := w) (base := base) (tb := tb) bu bl
  refine gZ D kD (fun ds M Q E hS => by obtain ⟨d, m, e, _⟩ := hS; rw [e]; rfl) fun A outer s E Γ ds Q' E' hP hw hK ht hr hS => ?_
  obtain ⟨d, m, e, hk, q⟩ := hS
  refine ⟨_, (au (bD (qy (ax ug (hr.mono (by decide)) rfl bu.mg bu.fn.kp bu.bd bH hP hw hK ht XR.none (aa (qv 0) ae)) (qw (yc yg iC ai (qv 0) (qv 1)))))), ?_⟩
  subst e
  refine ⟨d, rfl, hk, ?_⟩
  cases d with
  | int i =>
    simp! only [wC]
    refine dN (fun h => ?_) (fun h => ?_)
    · rw [show cI m (.int i) = decide (i < m) by simp only [cI, h, Bool.true_and]] at q
      exact .inl q
    · rw [show cI m (.int i) = false by simp only [cI, h, Bool.false_and]] at q
      exact .inl q
  | _ => exact .inl q
noncomputable def d7 (m : Int) (w : Nat) : Dv → Bool | .tup ds => decide (ds.length = w) && ds.all (cI m) | _ => false
noncomputable def jl : Dv → Bool | .tup ds => ds.all j4 | d => j4 d
noncomputable def EC : dM := fun ds M Q _ => ∃ d m w, ds = [d, .int m, .int (w : Nat)] ∧ jl d = true ∧ Q (.bl (d7 m w d)) M
theorem wD {f f1 f2 : Addr} {fd aL fd2 : FuncData} {jm bE : Addr} (D : Df K mg "is_row" g8 ["thing", "many", "width"] f fd) (fQ : zq base fd jm bE) (hp : bE ∈ tb) (ig : ∃ bm ob, BMod base mainGlobals mg bm ob)
    (aM : Df K mg "is_whole_below" bU ["thing", "many"] f1 aL) (bu : Df K mg "is_whole" dw ["thing"] f2 fd2) (bl : Bl mg) : FnOk P w K mg base b9 4 f fd ["thing", "many", "width"] (aB P w K tb EC) := by
  have fg := gA (P := P) (w := w) (base := base) (tb := tb) aM bu bl
  refine gZ D wB (fun ds M Q E hS => by obtain ⟨d, m, n, e, _⟩ := hS; rw [e]; rfl) fun A outer s E Γ ds Q' E' hP hw hK ht hr hS => ?_
  obtain ⟨d, m, n, e, hk, q⟩ := hS
  have uh : bE ∈ Γ.tb := ht ▸ hp
  refine ⟨_, (aj (bJ (QW.pt (zH (gh (fF (aS (jj (K := K) rfl) rfl bl.isinstance_ cq (aa (qv 0) (aa (iV (v := .ty "tuple") rfl bl.tuple_ gT rfl) ae))))) (vM (bC Jg (aS (eU (K := K) rfl hK) rfl bl.len_ PySem.boot_len (aa (qv 0) ae)) (qv 2) (bN _)))))
      (au (bD fE))
      qss_nil)
    (au (bD (v3 (k := 2) (N' := ["goal", "many"]) (tn := 1) (idx := [1]) uh (hr.mono (by decide)) rfl (show bf ["thing", "many", "width"] (ak g8) _ ["goal", "many"] 1 [1] from by decide +kernel) rfl rfl fQ.code fQ.hd ig rfl bl.all_ (mC (K := K) rfl (qv 0)) (fun _ _ _ _ _ _ _ hr => (bT (i := 0) (show List.Nodup [("goal" : Str), ("many" : Str)] from by decide +kernel) rfl (Or.inl rfl))) (fun _ _ _ _ _ _ _ hr => iW) (fun _ _ _ _ _ _ _ hr => (ax fg (hr.mono (by decide)) rfl aM.mg aM.fn.kp aM.bd bH hP hw hK ht XR.none (aa (qv 0) (aa (qv 1) ae)))))))), ?_⟩
  subst e
  cases d with
  | tup es =>
    refine ⟨by decide, dN (c := !decide ((es.length : Int) = (n : Nat))) (fun h => ?_) (fun h => ?_)⟩
    · rw [show d7 m n (.tup es) = false by simp at h; simp [d7]; intro z; omega] at q
      exact .inl q
    · rw [show d7 m n (.tup es) = es.all (cI m) by simp at h; simp [d7, show es.length = n by omega]] at q
      refine nu (cI m) (fun τ => ∃ x, τ = [x, some (.int m)]) ⟨none, rfl⟩ (fun d hd τ ⟨x, e⟩ R hR => ?_) (.inl q)
      subst e
      exact ⟨d, m, rfl, List.all_eq_true.mp hk d hd, hR _ ⟨_, rfl⟩⟩
  | _ => first | exact ⟨by decide, .inl q⟩ | exact nomatch hk
noncomputable def cZ : Dv → Bool | .tup rs => decide (1 ≤ rs.length ∧ rs.length ≤ 9) && (rs.all (d7 rs.length 2) || rs.all (d7 rs.length 3)) | _ => false
noncomputable def eL : Dv → Bool | .tup rs => rs.all jl | d => j4 d
noncomputable def ED : dM := fun ds M Q _ => ∃ d, ds = [d] ∧ eL d = true ∧ Q (.bl (cZ d)) M
theorem wF {f f1 f2 f3 : Addr} {fd aL fd2 wG : FuncData} {jm bE qQ cw : Addr} (D : Df K mg "is_net" g9 ["thing"] f fd) (jn : zq base fd qQ cw) (HC : cw ∈ tb) (fh : Df K mg "is_row" g8 ["thing", "many", "width"] f3 wG) (fQ : zq base wG jm bE) (hp : bE ∈ tb) (ig : ∃ bm ob, BMod base mainGlobals mg bm ob)
    (aM : Df K mg "is_whole_below" bU ["thing", "many"] f1 aL) (bu : Df K mg "is_whole" dw ["thing"] f2 fd2) (bl : Bl mg) {tk : Tok} (fR : mg "MOST_PLACES" = some (.int 9 tk)) : FnOk P w K mg base b9 6 f fd ["thing"] (aB P w K tb ED) := by
  have yu := wD (P := P) (w := w) (tb := tb) fh fQ hp ig aM bu bl
  refine gZ D j1 (fun ds M Q E hS => by obtain ⟨d, e, _⟩ := hS; rw [e]; rfl) fun A outer s E Γ ds Q' E' hP hw hK ht hr hS => ?_
  obtain ⟨d, e, hk, q⟩ := hS
  have jo : cw ∈ Γ.tb := ht ▸ HC
  refine ⟨_, (aj (bJ (QW.pt (zH (gh (fF (aS (jj (K := K) rfl) rfl bl.isinstance_ cq (aa (qv 0) (aa (iV (v := .ty "tuple") rfl bl.tuple_ gT rfl) ae))))) (vM (gh (ye yg yg ai (aS (eU (K := K) rfl hK) rfl bl.len_ PySem.boot_len (aa (qv 0) ae)) (yb (i := 9) rfl fR ⟨_, rfl⟩))))))
      (au (bD fE))
      qss_nil)
    (aj (aU (i := 1) j1.nd rfl (Or.inr rfl) (aS (eU (K := K) rfl hK) rfl bl.len_ PySem.boot_len (aa (qv 0) ae)))
    (aj (fG PassesOwn.never rfl (mC (K := K) rfl (dW (aa ai (aa ai ae)))) (fun mL eP ew eK et => by have hP := hP.trans eP.symm; have hw := hw.trans ew.symm; have hK := hK.trans eK.symm; have ht := ht.trans et.symm; have jo := et.symm ▸ jo; exact ⟨(bT (i := 2) j1.nd rfl (Or.inr rfl)), (au (bJ (fF (v3 (k := 4) (N' := ["row", "many", "width"]) (tn := 1) (idx := [1, 2]) jo (hr.mono (by decide)) rfl (show bf ["thing", "many", "width"] (ak g9) _ ["row", "many", "width"] 1 [1, 2] from by decide +kernel) rfl rfl jn.code jn.hd ig rfl bl.all_ (mC (K := K) rfl (qv 0)) (fun _ _ _ _ _ _ _ hr => (bT (i := 0) (show List.Nodup [("row" : Str), ("many" : Str), ("width" : Str)] from by decide +kernel) rfl (Or.inl rfl))) (fun _ _ _ _ _ _ _ hr => iW) (fun _ _ _ _ _ _ _ hr => (ax yu (hr.mono (by decide)) rfl fh.mg fh.fn.kp fh.bd bH hP hw hK ht XR.none (aa (qv 0) (aa (qv 1) (aa (qv 2) ae)))))))
      (au (bD fE))
      qss_nil))⟩))
    (au (bD fE))))), ?_⟩
  subst e
  cases d with
  | tup rs =>
    refine ⟨by decide, ?_⟩
    have row : ∀ (n : Nat) (D : Bool → Mh → Prop), (D (rs.all (d7 rs.length n)) Γ.M0) → ip (zgName 0) zNoIf (zCall EC (fun _ _ => False) (zCons (zVar 0) (zCons (zVar 1) (zCons (zVar 2) zNil)))) rs [none, some (.int rs.length), some (.int (n : Nat))] Γ.M0 D := fun n D hD => by
      refine nu (d7 rs.length n) (fun τ => ∃ x, τ = [x, some (.int rs.length), some (.int (n : Nat))]) ⟨none, rfl⟩ (fun d hd τ ⟨x, e⟩ R hR => ?_) hD
      subst e
      exact ⟨d, rs.length, n, rfl, List.all_eq_true.mp hk d hd, hR _ ⟨_, rfl⟩⟩
    simp! only []
    refine dN (fun h1 => dN (fun h2 => ?_) (fun h2 => ⟨by decide, ?_⟩)) (fun h1 => ?_)
    · rw [show cZ (.tup rs) = false by simp at h1 h2; simp [cZ]; intro z; omega] at q
      exact .inl q
    · have e : cZ (.tup rs) = (rs.all (d7 rs.length 2) || rs.all (d7 rs.length 3)) := by
        simp at h1 h2
        simp only [cZ]
        rw [decide_eq_true (by omega), Bool.true_and]
      rw [e] at q
      refine row 2 _ (dN (fun z => ?_) (fun z => row 3 _ (dN (fun z2 => ?_) (fun z2 => ?_))))
      · rw [z] at q; exact .inl q
      · rw [z, z2] at q; exact .inl q
      · rw [z, z2] at q; exact .inl q
    · rw [show cZ (.tup rs) = false by simp at h1; simp [cZ]; intro z; omega] at q
      exact .inl q
  | _ => first | exact ⟨by decide, .inl q⟩ | exact nomatch hk
theorem rQ : aG ["thing"] ["thing"] (ak bj) := ⟨rfl, rfl, rfl, by decide +kernel, rfl, by decide +kernel, by decide +kernel⟩
theorem sY (aD : List (List Int)) : eL (eN aD) = true := by
  simp only [eL, eN]
  rw [List.all_eq_true]
  intro d hd
  obtain ⟨r, _, rfl⟩ := List.mem_map.mp hd
  simp only [jl, eI]
  rw [List.all_eq_true]
  intro d hd
  obtain ⟨g, hg, rfl⟩ := List.mem_map.mp hd
  rfl
noncomputable def eY (C : Addr) : dM := fun ds M Q E => ∃ d, ds = [d] ∧ eL d = true ∧ (cZ d = true → Q .aC M) ∧ (cZ d = false → E C M)
theorem rR {f f1 : Addr} {fd aL : FuncData} {C0 C_NoNet : Addr} {cs : List Addr} (D : Df K mg "need_net" bj ["thing"] f fd) (fi : Df K mg "is_net" g9 ["thing"] f1 aL) (lB : FnOk P w K mg base b9 6 f1 aL ["thing"] (aB P w K tb ED))
    (X_ : qo K C0 cs) (bw : C_NoNet ∈ cs) (gI : mg "NoNet" = some (.ref C_NoNet)) : FnOk P w K mg base (aK P w) 7 f fd ["thing"] (aB P w K tb (eY C_NoNet)) := by
  refine bZ D rQ (fun ds M Q E hS => by obtain ⟨d, e, _⟩ := hS; rw [e]; rfl) fun A outer s E Γ ds Q' E' hP hw hK ht hE hr hS => ?_
  obtain ⟨d, e, hk, q1, q2⟩ := hS
  refine ⟨_, (au (bJ (gh (fF (ax lB (hr.mono (by decide)) rfl fi.mg fi.fn.kp fi.bd bH hP hw hK ht XR.none (aa (qv 0) ae))))
      (au (yh (X_.ex _ bw) PySem.F.excBase_ValueError rfl DF hE rfl gI (aa iU ae)))
      qss_nil)), ?_⟩
  subst e
  simp! only []
  refine ⟨d, rfl, hk, dN (fun h => ?_) (fun h => ?_)⟩
  · exact ⟨by decide, q2 (by simpa using h)⟩
  · exact .inl (q1 (by simpa using h))
end
section
variable {P : Program} {w : World} {K : PySem.W.Frag} {mg : Str → Option Value} {base : Heap} {tb : eG} {C_NoNet : Addr}
noncomputable def bo (C : Addr) (n : Nat) : dM := fun ds M _ E => ∃ d r, ds = d :: r ∧ r.length = n ∧ eL d = true ∧ cZ d = false ∧ E C M
noncomputable def nE (C : Addr) : dM := fun ds M _ E => ∃ d1 d2, ds = [d1, d2] ∧ eL d1 = true ∧ (cZ d1 = true → eL d2 = true ∧ cZ d2 = false) ∧ E C M
theorem yw {k : Nat} {f : Addr} {fd : FuncData} {ps : List Str} (G : FnOk P w K mg base (aK P w) k f fd ps (aB P w K tb (nE C_NoNet))) : FnOk P w K mg base (aK P w) k f fd ps (aB P w K tb (bo C_NoNet 1)) := G.imp fun vs H Q E hS => by
  obtain ⟨β, ds, M, Q', E', eP, ew, eK, et, m, rs, hS, q⟩ := hS
  obtain ⟨d, r, e, hl, hk, hb, hE⟩ := hS
  match r, hl with
  | [x], _ => exact ⟨β, ds, M, Q', E', eP, ew, eK, et, m, rs, ⟨d, x, e, hk, fun h => (by rw [hb] at h; cases h), hE⟩, q⟩
theorem rS : aG ["net"] ["net"] (ak fH) := ⟨rfl, rfl, rfl, by decide +kernel, rfl, by decide +kernel, by decide +kernel⟩
theorem rT {f f1 : Addr} {fd aL : FuncData} (D : Df K mg "signs_of" fH ["net"] f fd) (af : Df K mg "need_net" bj ["thing"] f1 aL) (ay : FnOk P w K mg base (aK P w) 7 f1 aL ["thing"] (aB P w K tb (eY C_NoNet))) (bl : Bl mg) : FnOk P w K mg base (aK P w) 8 f fd ["net"] (aB P w K tb (bo C_NoNet 0)) := by
  refine bZ D rS (fun ds M Q E hS => by obtain ⟨d, r, e, hl, _⟩ := hS; rw [e]; simp [hl]) fun A outer s E Γ ds Q' E' hP hw hK ht hE hr hS => ?_
  obtain ⟨d, r, e, hl, hk, hb, q⟩ := hS
  obtain rfl := List.eq_nil_of_length_eq_zero hl
  refine ⟨_, (aj (aY (ax ay (hr.mono (by decide)) rfl af.mg af.fn.kp af.bd bY hP hw hK ht hE (aa (qv 0) ae))) bb), ?_⟩
  subst e
  simp! only []
  exact ⟨d, rfl, hk, fun h => (by rw [hb] at h; cases h), fun _ => q⟩
theorem mQ : aG ["net", "thing", "signs"] ["net", "thing"] (ak iu) := ⟨rfl, rfl, rfl, by decide +kernel, rfl, by decide +kernel, by decide +kernel⟩
theorem ui {f f1 : Addr} {fd aL : FuncData} (D : Df K mg "is_word" iu ["net", "thing"] f fd) (bO : Df K mg "signs_of" fH ["net"] f1 aL) (eu : FnOk P w K mg base (aK P w) 8 f1 aL ["net"] (aB P w K tb (bo C_NoNet 0))) (bl : Bl mg) : FnOk P w K mg base (aK P w) 9 f fd ["net", "thing"] (aB P w K tb (bo C_NoNet 1)) := by
  refine bZ D mQ (fun ds M Q E hS => by obtain ⟨d, r, e, hl, _⟩ := hS; rw [e]; simp [hl]) fun A outer s E Γ ds Q' E' hP hw hK ht hE hr hS => ?_
  obtain ⟨d, r, e, hl, hk, hb, q⟩ := hS
  obtain ⟨x0, rfl⟩ : ∃ x0, r = [x0] := by
    match r, hl with
    | [y0], _ => exact ⟨y0, rfl⟩
  refine ⟨_, (aj (aU (i := 2) mQ.nd rfl (Or.inr rfl) (ax eu (hr.mono (by decide)) rfl bO.mg bO.fn.kp bO.bd bY hP hw hK ht hE (aa (qv 0) ae))) bb), ?_⟩
  subst e
  simp! only []
  exact ⟨d, [], rfl, rfl, hk, hb, q⟩
theorem yx : aG ["net", "reached", "told", "place", "part"] ["net"] (ak iX) := ⟨rfl, rfl, rfl, by decide +kernel, rfl, by decide +kernel, by decide +kernel⟩
theorem yy {f f1 : Addr} {fd aL : FuncData} (D : Df K mg "parts" iX ["net"] f fd) (af : Df K mg "need_net" bj ["thing"] f1 aL) (ay : FnOk P w K mg base (aK P w) 7 f1 aL ["thing"] (aB P w K tb (eY C_NoNet))) (bl : Bl mg) : FnOk P w K mg base (aK P w) 8 f fd ["net"] (aB P w K tb (bo C_NoNet 0)) := by
  refine bZ D yx (fun ds M Q E hS => by obtain ⟨d, r, e, hl, _⟩ := hS; rw [e]; simp [hl]) fun A outer s E Γ ds Q' E' hP hw hK ht hE hr hS => ?_
  obtain ⟨d, r, e, hl, hk, hb, q⟩ := hS
  obtain rfl := List.eq_nil_of_length_eq_zero hl
  refine ⟨_, (aj (aY (ax ay (hr.mono (by decide)) rfl af.mg af.fn.kp af.bd bY hP hw hK ht hE (aa (qv 0) ae))) bb), ?_⟩
  subst e
  simp! only []
  exact ⟨d, rfl, hk, fun h => (by rw [hb] at h; cases h), fun _ => q⟩
theorem kG : aG ["net"] ["net"] (ak cH) := ⟨rfl, rfl, rfl, by decide +kernel, rfl, by decide +kernel, by decide +kernel⟩
theorem kI {f f1 : Addr} {fd aL : FuncData} (D : Df K mg "hangs_together" cH ["net"] f fd) (di : Df K mg "parts" iX ["net"] f1 aL) (gJ : FnOk P w K mg base (aK P w) 8 f1 aL ["net"] (aB P w K tb (bo C_NoNet 0))) (bl : Bl mg) : FnOk P w K mg base (aK P w) 9 f fd ["net"] (aB P w K tb (bo C_NoNet 0)) := by
  refine bZ D kG (fun ds M Q E hS => by obtain ⟨d, r, e, hl, _⟩ := hS; rw [e]; simp [hl]) fun A outer s E Γ ds Q' E' hP hw hK ht hE hr hS => ?_
  obtain ⟨d, r, e, hl, hk, hb, q⟩ := hS
  obtain rfl := List.eq_nil_of_length_eq_zero hl
  refine ⟨_, (au (bD (AJ lr (aS (eU (K := K) rfl hK) rfl bl.len_ PySem.boot_len (aa (ax gJ (hr.mono (by decide)) rfl di.mg di.fn.kp di.bd bY hP hw hK ht hE (aa (qv 0) ae)) ae)) ai (bN _)))), ?_⟩
  subst e
  simp! only []
  exact ⟨d, [], rfl, rfl, hk, hb, q⟩
theorem oQ : aG ["net"] ["net"] (ak dY) := ⟨rfl, rfl, rfl, by decide +kernel, rfl, by decide +kernel, by decide +kernel⟩
theorem oR {f f1 : Addr} {fd aL : FuncData} (D : Df K mg "need_whole" dY ["net"] f fd) (aX : Df K mg "hangs_together" cH ["net"] f1 aL) (bV : FnOk P w K mg base (aK P w) 9 f1 aL ["net"] (aB P w K tb (bo C_NoNet 0))) (bl : Bl mg) : FnOk P w K mg base (aK P w) 10 f fd ["net"] (aB P w K tb (bo C_NoNet 0)) := by
  refine bZ D oQ (fun ds M Q E hS => by obtain ⟨d, r, e, hl, _⟩ := hS; rw [e]; simp [hl]) fun A outer s E Γ ds Q' E' hP hw hK ht hE hr hS => ?_
  obtain ⟨d, r, e, hl, hk, hb, q⟩ := hS
  obtain rfl := List.eq_nil_of_length_eq_zero hl
  refine ⟨_, (au (bJ (gh (fF (ax bV (hr.mono (by decide)) rfl aX.mg aX.fn.kp aX.bd bY hP hw hK ht hE (aa (qv 0) ae))))
      (au ll)
      qss_nil)), ?_⟩
  subst e
  simp! only []
  exact ⟨d, [], rfl, rfl, hk, hb, q⟩
theorem A6 : aG ["net", "words", "far", "size", "place", "row", "goal"] ["net"] (ak mI) := ⟨rfl, rfl, rfl, by decide +kernel, rfl, by decide +kernel, by decide +kernel⟩
theorem A7 {f f1 : Addr} {fd aL : FuncData} (D : Df K mg "beat" mI ["net"] f fd) (bq : Df K mg "need_whole" dY ["net"] f1 aL) (dj : FnOk P w K mg base (aK P w) 10 f1 aL ["net"] (aB P w K tb (bo C_NoNet 0))) (bl : Bl mg) : FnOk P w K mg base (aK P w) 11 f fd ["net"] (aB P w K tb (bo C_NoNet 0)) := by
  refine bZ D A6 (fun ds M Q E hS => by obtain ⟨d, r, e, hl, _⟩ := hS; rw [e]; simp [hl]) fun A outer s E Γ ds Q' E' hP hw hK ht hE hr hS => ?_
  obtain ⟨d, r, e, hl, hk, hb, q⟩ := hS
  obtain rfl := List.eq_nil_of_length_eq_zero hl
  refine ⟨_, (aj (aY (ax dj (hr.mono (by decide)) rfl bq.mg bq.fn.kp bq.bd bY hP hw hK ht hE (aa (qv 0) ae))) bb), ?_⟩
  subst e
  simp! only []
  exact ⟨d, [], rfl, rfl, hk, hb, q⟩
theorem uj : aG ["net", "stages", "told", "counts", "last", "coming", "leaving"] ["net"] (ak ix) := ⟨rfl, rfl, rfl, by decide +kernel, rfl, by decide +kernel, by decide +kernel⟩
theorem uk {f f1 : Addr} {fd aL : FuncData} (D : Df K mg "weights" ix ["net"] f fd) (bq : Df K mg "need_whole" dY ["net"] f1 aL) (dj : FnOk P w K mg base (aK P w) 10 f1 aL ["net"] (aB P w K tb (bo C_NoNet 0))) (bl : Bl mg) : FnOk P w K mg base (aK P w) 11 f fd ["net"] (aB P w K tb (bo C_NoNet 0)) := by
  refine bZ D uj (fun ds M Q E hS => by obtain ⟨d, r, e, hl, _⟩ := hS; rw [e]; simp [hl]) fun A outer s E Γ ds Q' E' hP hw hK ht hE hr hS => ?_
  obtain ⟨d, r, e, hl, hk, hb, q⟩ := hS
  obtain rfl := List.eq_nil_of_length_eq_zero hl
  refine ⟨_, (aj (aY (ax dj (hr.mono (by decide)) rfl bq.mg bq.fn.kp bq.bd bY hP hw hK ht hE (aa (qv 0) ae))) bb), ?_⟩
  subst e
  simp! only []
  exact ⟨d, [], rfl, rfl, hk, hb, q⟩
theorem rV : aG ["net", "many", "row"] ["net"] (ak fI) := ⟨rfl, rfl, rfl, by decide +kernel, rfl, by decide +kernel, by decide +kernel⟩
theorem rW {f f1 : Addr} {fd aL : FuncData} (D : Df K mg "signings" fI ["net"] f fd) (af : Df K mg "need_net" bj ["thing"] f1 aL) (ay : FnOk P w K mg base (aK P w) 7 f1 aL ["thing"] (aB P w K tb (eY C_NoNet))) (bl : Bl mg) : FnOk P w K mg base (aK P w) 8 f fd ["net"] (aB P w K tb (bo C_NoNet 0)) := by
  refine bZ D rV (fun ds M Q E hS => by obtain ⟨d, r, e, hl, _⟩ := hS; rw [e]; simp [hl]) fun A outer s E Γ ds Q' E' hP hw hK ht hE hr hS => ?_
  obtain ⟨d, r, e, hl, hk, hb, q⟩ := hS
  obtain rfl := List.eq_nil_of_length_eq_zero hl
  refine ⟨_, (aj (aY (ax ay (hr.mono (by decide)) rfl af.mg af.fn.kp af.bd bY hP hw hK ht hE (aa (qv 0) ae))) bb), ?_⟩
  subst e
  simp! only []
  exact ⟨d, rfl, hk, fun h => (by rw [hb] at h; cases h), fun _ => q⟩
theorem qR : aG ["net", "number", "row", "choices"] ["net"] (ak fX) := ⟨rfl, rfl, rfl, by decide +kernel, rfl, by decide +kernel, by decide +kernel⟩
theorem qS {f f1 : Addr} {fd aL : FuncData} (D : Df K mg "number_of" fX ["net"] f fd) (af : Df K mg "need_net" bj ["thing"] f1 aL) (ay : FnOk P w K mg base (aK P w) 7 f1 aL ["thing"] (aB P w K tb (eY C_NoNet))) (bl : Bl mg) : FnOk P w K mg base (aK P w) 8 f fd ["net"] (aB P w K tb (bo C_NoNet 0)) := by
  refine bZ D qR (fun ds M Q E hS => by obtain ⟨d, r, e, hl, _⟩ := hS; rw [e]; simp [hl]) fun A outer s E Γ ds Q' E' hP hw hK ht hE hr hS => ?_
  obtain ⟨d, r, e, hl, hk, hb, q⟩ := hS
  obtain rfl := List.eq_nil_of_length_eq_zero hl
  refine ⟨_, (aj (aY (ax ay (hr.mono (by decide)) rfl af.mg af.fn.kp af.bd bY hP hw hK ht hE (aa (qv 0) ae))) bb), ?_⟩
  subst e
  simp! only []
  exact ⟨d, rfl, hk, fun h => (by rw [hb] at h; cases h), fun _ => q⟩
theorem rX : aG ["net", "found"] ["net"] (ak gC) := ⟨rfl, rfl, rfl, by decide +kernel, rfl, by decide +kernel, by decide +kernel⟩
theorem rY {f f1 : Addr} {fd aL : FuncData} (D : Df K mg "all_maps" gC ["net"] f fd) (af : Df K mg "need_net" bj ["thing"] f1 aL) (ay : FnOk P w K mg base (aK P w) 7 f1 aL ["thing"] (aB P w K tb (eY C_NoNet))) (bl : Bl mg) : FnOk P w K mg base (aK P w) 8 f fd ["net"] (aB P w K tb (bo C_NoNet 0)) := by
  refine bZ D rX (fun ds M Q E hS => by obtain ⟨d, r, e, hl, _⟩ := hS; rw [e]; simp [hl]) fun A outer s E Γ ds Q' E' hP hw hK ht hE hr hS => ?_
  obtain ⟨d, r, e, hl, hk, hb, q⟩ := hS
  obtain rfl := List.eq_nil_of_length_eq_zero hl
  refine ⟨_, (aj (aY (ax ay (hr.mono (by decide)) rfl af.mg af.fn.kp af.bd bY hP hw hK ht hE (aa (qv 0) ae))) bb), ?_⟩
  subst e
  simp! only []
  exact ⟨d, rfl, hk, fun h => (by rw [hb] at h; cases h), fun _ => q⟩
theorem wH : aG ["net", "word"] ["net", "word"] (ak fP) := ⟨rfl, rfl, rfl, by decide +kernel, rfl, by decide +kernel, by decide +kernel⟩
theorem wI {f f1 : Addr} {fd aL : FuncData} (D : Df K mg "map_of" fP ["net", "word"] f fd) (af : Df K mg "need_net" bj ["thing"] f1 aL) (ay : FnOk P w K mg base (aK P w) 7 f1 aL ["thing"] (aB P w K tb (eY C_NoNet))) (bl : Bl mg) : FnOk P w K mg base (aK P w) 8 f fd ["net", "word"] (aB P w K tb (bo C_NoNet 1)) := by
  refine bZ D wH (fun ds M Q E hS => by obtain ⟨d, r, e, hl, _⟩ := hS; rw [e]; simp [hl]) fun A outer s E Γ ds Q' E' hP hw hK ht hE hr hS => ?_
  obtain ⟨d, r, e, hl, hk, hb, q⟩ := hS
  obtain ⟨x0, rfl⟩ : ∃ x0, r = [x0] := by
    match r, hl with
    | [y0], _ => exact ⟨y0, rfl⟩
  refine ⟨_, (aj (aY (ax ay (hr.mono (by decide)) rfl af.mg af.fn.kp af.bd bY hP hw hK ht hE (aa (qv 0) ae))) bb), ?_⟩
  subst e
  simp! only []
  exact ⟨d, rfl, hk, fun h => (by rw [hb] at h; cases h), fun _ => q⟩
theorem A8 : aG ["net", "word"] ["net", "word"] (ak mK) := ⟨rfl, rfl, rfl, by decide +kernel, rfl, by decide +kernel, by decide +kernel⟩
theorem A9 {f f1 : Addr} {fd aL : FuncData} (D : Df K mg "left" mK ["net", "word"] f fd) (bz : Df K mg "map_of" fP ["net", "word"] f1 aL) (dz : FnOk P w K mg base (aK P w) 8 f1 aL ["net", "word"] (aB P w K tb (bo C_NoNet 1))) (bl : Bl mg) : FnOk P w K mg base (aK P w) 9 f fd ["net", "word"] (aB P w K tb (bo C_NoNet 1)) := by
  refine bZ D A8 (fun ds M Q E hS => by obtain ⟨d, r, e, hl, _⟩ := hS; rw [e]; simp [hl]) fun A outer s E Γ ds Q' E' hP hw hK ht hE hr hS => ?_
  obtain ⟨d, r, e, hl, hk, hb, q⟩ := hS
  obtain ⟨x0, rfl⟩ : ∃ x0, r = [x0] := by
    match r, hl with
    | [y0], _ => exact ⟨y0, rfl⟩
  refine ⟨_, (au (bD (aS (D1 hP hw) rfl bl.len_ PySem.boot_len (aa (fq (F7 hP hw (K := K) rfl rfl) rfl bl.set_ DA (aa (ax dz (hr.mono (by decide)) rfl bz.mg bz.fn.kp bz.bd bY hP hw hK ht hE (aa (qv 0) (aa (qv 1) ae))) ae)) ae)))), ?_⟩
  subst e
  simp! only []
  exact ⟨d, [x0], rfl, rfl, hk, hb, q⟩
theorem iY : aG ["net", "word", "once", "met", "said"] ["net", "word"] (ak eV) := ⟨rfl, rfl, rfl, by decide +kernel, rfl, by decide +kernel, by decide +kernel⟩
theorem nF {f f1 : Addr} {fd aL : FuncData} (D : Df K mg "comes_round" eV ["net", "word"] f fd) (bz : Df K mg "map_of" fP ["net", "word"] f1 aL) (dz : FnOk P w K mg base (aK P w) 8 f1 aL ["net", "word"] (aB P w K tb (bo C_NoNet 1))) (bl : Bl mg) : FnOk P w K mg base (aK P w) 9 f fd ["net", "word"] (aB P w K tb (bo C_NoNet 1)) := by
  refine bZ D iY (fun ds M Q E hS => by obtain ⟨d, r, e, hl, _⟩ := hS; rw [e]; simp [hl]) fun A outer s E Γ ds Q' E' hP hw hK ht hE hr hS => ?_
  obtain ⟨d, r, e, hl, hk, hb, q⟩ := hS
  obtain ⟨x0, rfl⟩ : ∃ x0, r = [x0] := by
    match r, hl with
    | [y0], _ => exact ⟨y0, rfl⟩
  refine ⟨_, (aj (aU (i := 2) iY.nd rfl (Or.inr rfl) (ax dz (hr.mono (by decide)) rfl bz.mg bz.fn.kp bz.bd bY hP hw hK ht hE (aa (qv 0) (aa (qv 1) ae)))) bb), ?_⟩
  subst e
  simp! only []
  exact ⟨d, [x0], rfl, rfl, hk, hb, q⟩
theorem um : aG ["net", "number", "rows", "row", "choices", "at"] ["net", "number"] (ak iw) := ⟨rfl, rfl, rfl, by decide +kernel, rfl, by decide +kernel, by decide +kernel⟩
theorem uo {f f1 : Addr} {fd aL : FuncData} (D : Df K mg "signing" iw ["net", "number"] f fd)
    {fb : Addr} {Lj : FuncData} (aM : Df K mg "is_whole_below" bU ["thing", "many"] fb Lj) {fw : Addr} {Lk : FuncData} (bu : Df K mg "is_whole" dw ["thing"] fw Lk) (bP : Df K mg "signings" fI ["net"] f1 aL) (ez : FnOk P w K mg base (aK P w) 8 f1 aL ["net"] (aB P w K tb (bo C_NoNet 0))) (bl : Bl mg) : FnOk P w K mg base (aK P w) 10 f fd ["net", "number"] (aB P w K tb (bo C_NoNet 1)) := by
  have fg := gA (P := P) (w := w) (base := base) (tb := tb) aM bu bl
  refine bZ D um (fun ds M Q E hS => by obtain ⟨d, r, e, hl, _⟩ := hS; rw [e]; simp [hl]) fun A outer s E Γ ds Q' E' hP hw hK ht hE hr hS => ?_
  obtain ⟨d, r, e, hl, hk, hb, q⟩ := hS
  obtain ⟨x0, rfl⟩ : ∃ x0, r = [x0] := by
    match r, hl with
    | [y0], _ => exact ⟨y0, rfl⟩
  refine ⟨_, (aj (bJ (gh (fF (ax fg (hr.mono (by decide)) rfl aM.mg aM.fn.kp aM.bd bH hP hw hK ht XR.none (aa (qv 1) (aa (ax ez (hr.mono (by decide)) rfl bP.mg bP.fn.kp bP.bd bY hP hw hK ht hE (aa (qv 0) ae)) ae)))))
      (au ll)
      qss_nil) bb), ?_⟩
  subst e
  simp! only []
  exact ⟨d, [], rfl, rfl, hk, hb, q⟩
theorem oS : aG ["one", "other"] ["one", "other"] (ak dZ) := ⟨rfl, rfl, rfl, by decide +kernel, rfl, by decide +kernel, by decide +kernel⟩
theorem oU {f f1 : Addr} {fd aL : FuncData} (D : Df K mg "same_roads" dZ ["one", "other"] f fd) (af : Df K mg "need_net" bj ["thing"] f1 aL) (ay : FnOk P w K mg base (aK P w) 7 f1 aL ["thing"] (aB P w K tb (eY C_NoNet))) (bl : Bl mg) : FnOk P w K mg base (aK P w) 8 f fd ["one", "other"] (aB P w K tb (nE C_NoNet)) := by
  refine bZ D oS (fun ds M Q E hS => by obtain ⟨d1, d2, e, _⟩ := hS; rw [e]; rfl) fun A outer s E Γ ds Q' E' hP hw hK ht hE hr hS => ?_
  obtain ⟨d, x0, e, hk, hb, q⟩ := hS
  refine ⟨_, (aj (aY (ax ay (hr.mono (by decide)) rfl af.mg af.fn.kp af.bd bY hP hw hK ht hE (aa (qv 0) ae)))
    (aj (aY (ax ay (hr.mono (by decide)) rfl af.mg af.fn.kp af.bd bY hP hw hK ht hE (aa (qv 1) ae))) bb)), ?_⟩
  subst e
  simp! only []
  exact ⟨d, rfl, hk, fun h => ⟨x0, rfl, (hb h).1, fun h2 => (by rw [(hb h).2] at h2; cases h2), fun _ => q⟩, fun _ => q⟩
theorem qT : aG ["one", "other", "told", "place", "row"] ["one", "other"] (ak fZ) := ⟨rfl, rfl, rfl, by decide +kernel, rfl, by decide +kernel, by decide +kernel⟩
theorem qU {f f1 : Addr} {fd aL : FuncData} (D : Df K mg "exchanges" fZ ["one", "other"] f fd) (a7 : Df K mg "same_roads" dZ ["one", "other"] f1 aL) (cJ : FnOk P w K mg base (aK P w) 8 f1 aL ["one", "other"] (aB P w K tb (nE C_NoNet))) (bl : Bl mg) : FnOk P w K mg base (aK P w) 9 f fd ["one", "other"] (aB P w K tb (nE C_NoNet)) := by
  refine bZ D qT (fun ds M Q E hS => by obtain ⟨d1, d2, e, _⟩ := hS; rw [e]; rfl) fun A outer s E Γ ds Q' E' hP hw hK ht hE hr hS => ?_
  obtain ⟨d, x0, e, hk, hb, q⟩ := hS
  refine ⟨_, (aj (bJ (gh (fF (ax cJ (hr.mono (by decide)) rfl a7.mg a7.fn.kp a7.bd bY hP hw hK ht hE (aa (qv 0) (aa (qv 1) ae)))))
      (au ll)
      qss_nil) bb), ?_⟩
  subst e
  simp! only []
  exact ⟨d, x0, rfl, hk, hb, q⟩
theorem EF : aG ["net", "place", "word"] ["net", "place", "word"] (ak pC) := ⟨rfl, rfl, rfl, by decide +kernel, rfl, by decide +kernel, by decide +kernel⟩
theorem EG {f f1 : Addr} {fd aL : FuncData} (D : Df K mg "led" pC ["net", "place", "word"] f fd) (af : Df K mg "need_net" bj ["thing"] f1 aL) (ay : FnOk P w K mg base (aK P w) 7 f1 aL ["thing"] (aB P w K tb (eY C_NoNet))) (bl : Bl mg) : FnOk P w K mg base (aK P w) 8 f fd ["net", "place", "word"] (aB P w K tb (bo C_NoNet 2)) := by
  refine bZ D EF (fun ds M Q E hS => by obtain ⟨d, r, e, hl, _⟩ := hS; rw [e]; simp [hl]) fun A outer s E Γ ds Q' E' hP hw hK ht hE hr hS => ?_
  obtain ⟨d, r, e, hl, hk, hb, q⟩ := hS
  obtain ⟨x0, x1, rfl⟩ : ∃ x0 x1, r = [x0, x1] := by
    match r, hl with
    | [y0, y1], _ => exact ⟨y0, y1, rfl⟩
  refine ⟨_, (aj (aY (ax ay (hr.mono (by decide)) rfl af.mg af.fn.kp af.bd bY hP hw hK ht hE (aa (qv 0) ae))) bb), ?_⟩
  subst e
  simp! only []
  exact ⟨d, rfl, hk, fun h => (by rw [hb] at h; cases h), fun _ => q⟩
theorem EH : aG ["net", "start", "goal"] ["net", "start", "goal"] (ak pD) := ⟨rfl, rfl, rfl, by decide +kernel, rfl, by decide +kernel, by decide +kernel⟩
theorem EI {f f1 : Addr} {fd aL : FuncData} (D : Df K mg "way" pD ["net", "start", "goal"] f fd) (af : Df K mg "need_net" bj ["thing"] f1 aL) (ay : FnOk P w K mg base (aK P w) 7 f1 aL ["thing"] (aB P w K tb (eY C_NoNet))) (bl : Bl mg) : FnOk P w K mg base (aK P w) 8 f fd ["net", "start", "goal"] (aB P w K tb (bo C_NoNet 2)) := by
  refine bZ D EH (fun ds M Q E hS => by obtain ⟨d, r, e, hl, _⟩ := hS; rw [e]; simp [hl]) fun A outer s E Γ ds Q' E' hP hw hK ht hE hr hS => ?_
  obtain ⟨d, r, e, hl, hk, hb, q⟩ := hS
  obtain ⟨x0, x1, rfl⟩ : ∃ x0 x1, r = [x0, x1] := by
    match r, hl with
    | [y0, y1], _ => exact ⟨y0, y1, rfl⟩
  refine ⟨_, (aj (aY (ax ay (hr.mono (by decide)) rfl af.mg af.fn.kp af.bd bY hP hw hK ht hE (aa (qv 0) ae))) bb), ?_⟩
  subst e
  simp! only []
  exact ⟨d, rfl, hk, fun h => (by rw [hb] at h; cases h), fun _ => q⟩
theorem yz : aG ["net", "places", "word"] ["net", "places", "word"] (ak kr) := ⟨rfl, rfl, rfl, by decide +kernel, rfl, by decide +kernel, by decide +kernel⟩
theorem yA {f f1 : Addr} {fd aL : FuncData} (D : Df K mg "image" kr ["net", "places", "word"] f fd) (af : Df K mg "need_net" bj ["thing"] f1 aL) (ay : FnOk P w K mg base (aK P w) 7 f1 aL ["thing"] (aB P w K tb (eY C_NoNet))) (bl : Bl mg) : FnOk P w K mg base (aK P w) 8 f fd ["net", "places", "word"] (aB P w K tb (bo C_NoNet 2)) := by
  refine bZ D yz (fun ds M Q E hS => by obtain ⟨d, r, e, hl, _⟩ := hS; rw [e]; simp [hl]) fun A outer s E Γ ds Q' E' hP hw hK ht hE hr hS => ?_
  obtain ⟨d, r, e, hl, hk, hb, q⟩ := hS
  obtain ⟨x0, x1, rfl⟩ : ∃ x0 x1, r = [x0, x1] := by
    match r, hl with
    | [y0, y1], _ => exact ⟨y0, y1, rfl⟩
  refine ⟨_, (aj (aY (ax ay (hr.mono (by decide)) rfl af.mg af.fn.kp af.bd bY hP hw hK ht hE (aa (qv 0) ae))) bb), ?_⟩
  subst e
  simp! only []
  exact ⟨d, rfl, hk, fun h => (by rw [hb] at h; cases h), fun _ => q⟩
theorem qV : aG ["net", "place", "one", "other", "row"] ["net", "place", "one", "other"] (ak fY) := ⟨rfl, rfl, rfl, by decide +kernel, rfl, by decide +kernel, by decide +kernel⟩
theorem qW {f f1 : Addr} {fd aL : FuncData} (D : Df K mg "exchanged" fY ["net", "place", "one", "other"] f fd) (af : Df K mg "need_net" bj ["thing"] f1 aL) (ay : FnOk P w K mg base (aK P w) 7 f1 aL ["thing"] (aB P w K tb (eY C_NoNet))) (bl : Bl mg) : FnOk P w K mg base (aK P w) 8 f fd ["net", "place", "one", "other"] (aB P w K tb (bo C_NoNet 3)) := by
  refine bZ D qV (fun ds M Q E hS => by obtain ⟨d, r, e, hl, _⟩ := hS; rw [e]; simp [hl]) fun A outer s E Γ ds Q' E' hP hw hK ht hE hr hS => ?_
  obtain ⟨d, r, e, hl, hk, hb, q⟩ := hS
  obtain ⟨x0, x1, x2, rfl⟩ : ∃ x0 x1 x2, r = [x0, x1, x2] := by
    match r, hl with
    | [y0, y1, y2], _ => exact ⟨y0, y1, y2, rfl⟩
  refine ⟨_, (aj (aY (ax ay (hr.mono (by decide)) rfl af.mg af.fn.kp af.bd bY hP hw hK ht hE (aa (qv 0) ae))) bb), ?_⟩
  subst e
  simp! only []
  exact ⟨d, rfl, hk, fun h => (by rw [hb] at h; cases h), fun _ => q⟩
end
section
variable {P : Program} {w : World} {K : PySem.W.Frag} {mg : Str → Option Value} {base : Heap} {tb : eG}
theorem bG : aG ["_law_bag_here", "_law_net_here", "_law_how", "_law_at", "_law_to", "_law_odd", "_law_row", "_law_some"] ["_law_bag_here", "_law_net_here"] (ak dG) := ⟨rfl, rfl, rfl, by decide +kernel, rfl, by decide +kernel, by decide +kernel⟩
theorem Ba (r : List Int) : jl (eI r) = true := by
  simp only [jl, eI, List.all_eq_true]
  intro d hd
  obtain ⟨i, _, rfl⟩ := List.mem_map.mp hd
  rfl
theorem qX {rs : List Dv} {r : Dv} (hr : r ∈ rs) (h : ∀ w, w = 2 ∨ w = 3 → d7 rs.length w r = false) : cZ (.tup rs) = false := by
  have f : ∀ w, w = 2 ∨ w = 3 → rs.all (d7 rs.length w) = false := fun w hw => by
    rw [List.all_eq_false]
    exact ⟨r, hr, by rw [h w hw]; exact Bool.false_ne_true⟩
  simp only [cZ, f 2 (.inl rfl), f 3 (.inr rfl), Bool.or_self, Bool.and_false]
theorem rZ {m : Nat} {ds : List Dv} {d : Dv} (hd : d ∈ ds) (h : cI m d = false) : ds.all (cI m) = false := by
  rw [List.all_eq_false]
  exact ⟨d, hd, by rw [h]; exact Bool.false_ne_true⟩
theorem qY {aD : List (List Int)} {k : Nat} (hk : k < aD.length) : cB (aD.map eI) (k : Int) = some (eI aD[k]) := bS (by rw [List.getElem?_map, List.getElem?_eq_getElem hk]; rfl)
theorem Bb {aD : List (List Int)} {n : Nat} (o : mi aD n) : ∃ r, cB (aD.map eI) 0 = some (eI r) ∧ r.length = n := by
  have := o.one
  exact ⟨aD[0], qY (k := 0) (by omega), (o.row _ (List.getElem_mem _)).1⟩
theorem yB {n w : Nat} {ds : List Dv} {d : Dv} (hd : d ∈ ds) (h : cI n d = false) : d7 n w (.tup ds) = false := by
  simp only [d7, rZ hd h, Bool.and_false]
theorem fS {xs : List Dv} {lo hi : Option Int} {d : Dv} (h : d ∈ L2.cutD xs lo hi) : d ∈ xs := List.mem_of_mem_drop (List.mem_of_mem_take h)
theorem Bc {xs : List Dv} {lo hi : Option Int} : (L2.cutD xs lo hi).length ≤ xs.length := by
  unfold L2.cutD
  rw [List.length_take, List.length_drop]
  omega
noncomputable def j5 (m : Nat) : List Dv := [.int (m : Nat), .int (-1), .bl true, .aC, .str (Str.ofString "0"), .tup [.int 0], .int (10 ^ Int.toNat 30), .lst [.int 0]]
theorem wJ {m : Nat} (h9 : m ≤ 9) : ∀ d ∈ j5 m, j4 d = true ∧ cI m d = false ∧ ∀ M, Pin M d := fun d hd => by
  have big : (10 : Int) ^ Int.toNat 30 = 1000000000000000000000000000000 := by decide +kernel
  simp only [j5, List.mem_cons, List.not_mem_nil, or_false] at hd
  rcases hd with rfl | rfl | rfl | rfl | rfl | rfl | rfl | rfl
  · exact ⟨rfl, by simp [cI], fun M => .int _⟩
  · exact ⟨rfl, by simp [cI], fun M => .int _⟩
  · exact ⟨rfl, rfl, fun M => .bl _⟩
  · exact ⟨rfl, rfl, fun M => .aC⟩
  · exact ⟨rfl, rfl, fun M => .str _⟩
  · exact ⟨rfl, rfl, fun M => jZ [0]⟩
  · exact ⟨rfl, by simp only [cI, Bool.and_eq_false_iff, decide_eq_false_iff_not]; right; omega, fun M => .int _⟩
  · exact ⟨rfl, rfl, fun M => .lst (dX [0])⟩
theorem qZ {aD : List (List Int)} : ∀ d ∈ aD.map eI, jl d = true := fun d hd => by
  obtain ⟨r, _, rfl⟩ := List.mem_map.mp hd
  exact Ba r
theorem nG {r : List Int} : ∀ d ∈ r.map Dv.int, j4 d = true := fun d hd => by
  obtain ⟨i, _, rfl⟩ := List.mem_map.mp hd
  rfl
theorem oF {aD : List (List Int)} {r : Dv} {at_ : Nat} (iS : at_ < aD.length) (hk : jl r = true) (h : ∀ w, w = 2 ∨ w = 3 → d7 aD.length w r = false) : eL (.tup (L2.cutD (aD.map eI) none (some (at_ : Nat)) ++ [r] ++ L2.cutD (aD.map eI) (some ((at_ : Nat) + 1)) none)) = true ∧ cZ (.tup (L2.cutD (aD.map eI) none (some (at_ : Nat)) ++ [r] ++ L2.cutD (aD.map eI) (some ((at_ : Nat) + 1)) none)) = false := by
  have el : (L2.cutD (aD.map eI) none (some (at_ : Nat)) ++ [r] ++ L2.cutD (aD.map eI) (some ((at_ : Nat) + 1)) none).length = aD.length := by
    rw [show ((at_ : Nat) : Int) + 1 = ((at_ + 1 : Nat) : Int) by omega, sV, we]
    simp only [List.length_append, List.length_singleton, List.length_take, List.length_drop, List.length_map]
    omega
  refine ⟨?_, qX (r := r) (by simp) fun w hw => by rw [el]; exact h w hw⟩
  simp only [eL, List.all_eq_true]
  intro d hd
  rcases List.mem_append.mp hd with hd | hd
  · rcases List.mem_append.mp hd with hd | hd
    · exact qZ d (fS hd)
    · rw [List.mem_singleton] at hd; subst hd; exact hk
  · exact qZ d (fS hd)
theorem sZ {ds : List Dv} (h : ∀ d ∈ ds, j4 d = true) : jl (.tup ds) = true := by
  simp only [jl, List.all_eq_true]
  exact h
noncomputable def j6 : List Dv := [.aC, .int 0, .str (Str.ofString "01"), .bl true, .lst [.lst [.int 0, .int 0]], .tup [.tup [.int 0]]]
theorem wK : ∀ d ∈ j6, eL d = true ∧ cZ d = false := fun d hd => by
  simp only [j6, List.mem_cons, List.not_mem_nil, or_false] at hd
  rcases hd with rfl | rfl | rfl | rfl | rfl | rfl <;> exact ⟨rfl, rfl⟩
noncomputable def mR (aD : List (List Int)) (row : List Int) (at_ : Nat) (oG : Dv) : List Dv := [.lst (aD.map eI), .tup (aD.map g6), .tup [], .tup (L2.cutD (aD.map eI) none (some (at_ : Nat)) ++ [.tup (List.map Dv.int row ++ [.int 0, .int 0])] ++ L2.cutD (aD.map eI) (some ((at_ : Nat) + 1)) none), .tup (L2.cutD (List.replicate (Int.toNat 10) (aD.map eI)).flatten none (some 10)), oG]
theorem yC {aD : List (List Int)} {n at_ : Nat} (O : mi aD n) (iS : at_ < aD.length) {oG : Dv} (k1 : eL oG = true) (k2 : cZ oG = false) : ∀ d ∈ mR aD aD[at_] at_ oG, eL d = true ∧ cZ d = false := fun d hd => by
  have h1 := O.one
  simp only [mR, List.mem_cons, List.not_mem_nil, or_false] at hd
  rcases hd with rfl | rfl | rfl | rfl | rfl | rfl
  · exact ⟨rfl, rfl⟩
  · refine ⟨?_, qX (r := g6 aD[at_]) (List.mem_map_of_mem (List.getElem_mem iS)) fun w hw => rfl⟩
    simp only [eL, List.all_eq_true]
    intro d hd
    obtain ⟨r, _, rfl⟩ := List.mem_map.mp hd
    rfl
  · exact ⟨rfl, rfl⟩
  · have hr := (O.row _ (List.getElem_mem iS)).1
    refine oF iS (sZ fun d hd => ?_) fun w hw => ?_
    · rcases List.mem_append.mp hd with hd | hd
      · exact nG d hd
      · simp at hd; rcases hd with rfl | rfl <;> rfl
    · have Ln := O.wid
      simp only [d7, List.length_append, List.length_map, List.length_cons, List.length_nil, Bool.and_eq_false_iff, decide_eq_false_iff_not]
      left
      omega
  · have el : (L2.cutD (List.replicate (Int.toNat 10) (aD.map eI)).flatten none (some 10)).length = 10 := by
      rw [show (10 : Int) = ((10 : Nat) : Int) from rfl, sV, List.length_take, List.length_flatten, List.map_replicate, List.sum_replicate_nat, List.length_map]
      show min 10 (10 * aD.length) = 10
      omega
    refine ⟨?_, ?_⟩
    · simp only [eL, List.all_eq_true]
      intro d hd
      obtain ⟨l, hl, hd⟩ := List.mem_flatten.mp (fS hd)
      rw [(List.mem_replicate.mp hl).2] at hd
      exact qZ d hd
    · simp only [cZ, el]
      rfl
  · exact ⟨k1, k2⟩
noncomputable def td : dM := fun ds M Q _ => ∃ (b : Addr) (aD : List (List Int)) (n : Nat), ds = [.ptr b, eN aD] ∧ M b = some .cQ ∧ mi aD n ∧ ∀ d, eL d = true → cZ d = false → Q d M
theorem oV {f f1 : Addr} {fd aL : FuncData} (D : Df K mg "_law_spoilt" dG ["_law_bag_here", "_law_net_here"] f fd)
    (ah : Df K mg "_law_take" cX ["_law_bag_here", "_law_many"] f1 aL) (aW : FnOk P w K mg base b9 1 f1 aL ["_law_bag_here", "_law_many"] (aB P w K tb mO)) (bl : Bl mg) :
    FnOk P w K mg base b9 2 f fd ["_law_bag_here", "_law_net_here"] (aB P w K tb td) := by
  refine gZ D bG (fun ds M Q E hS => by obtain ⟨b, aD, n, e, _⟩ := hS; rw [e]; rfl) fun A outer s E Γ ds Q' E' hP hw hK ht hr hS => ?_
  obtain ⟨b, aD, n, e, hb, O, q⟩ := hS
  have hM : Γ.M0 = Γ.M0 := rfl
  refine ⟨_, (aj (aU (i := 2) bG.nd rfl (Or.inl rfl) (ax aW (hr.mono (by decide)) rfl ah.mg ah.fn.kp ah.bd bH hP hw hK ht XR.none (aa (qv 0) (aa ai ae))))
    (aj (aU (i := 3) bG.nd rfl (Or.inl rfl) (ax aW (hr.mono (by decide)) rfl ah.mg ah.fn.kp ah.bd bH hP hw hK ht XR.none (aa (qv 0) (aa (aS (eU (K := K) rfl hK) rfl bl.len_ PySem.boot_len (aa (qv 1) ae)) ae))))
    (aj (aU (i := 4) bG.nd rfl (Or.inl rfl) (ax aW (hr.mono (by decide)) rfl ah.mg ah.fn.kp ah.bd bH hP hw hK ht XR.none (aa (qv 0) (aa (aS (eU (K := K) rfl hK) rfl bl.len_ PySem.boot_len (aa (bc (bR (K := K) rfl) (qv 1) ai (fun _ _ => rfl)) ae)) ae))))
    (aj (aU (i := 5) bG.nd rfl (Or.inl rfl) (bc (bR (K := K) rfl) (cT (aa (aS (eU (K := K) rfl hK) rfl bl.len_ PySem.boot_len (aa (qv 1) ae)) (aa (v7 ai) (aa fE (aa qp (aa iU (aa (dW (aa ai ae)) (aa (aI t4 ai ai) (aa (cT (aa ai ae)) ae))))))))) (ax aW (hr.mono (by decide)) rfl ah.mg ah.fn.kp ah.bd bH hP hw hK ht XR.none (aa (qv 0) (aa ai ae))) (fun _ _ => rfl)))
    (aj (bJ (bC iC (qv 2) ai (bN _))
      (aj (aU (i := 6) bG.nd rfl (Or.inl rfl) (aI (gY (K := K) rfl) (aI (gY (K := K) rfl) (fe (ji (K := K) rfl) (bc (bR (K := K) rfl) (qv 1) (qv 3) (fun _ _ => rfl)) fN (fO (qv 4))) (dW (aa (qv 5) ae))) (fe (ji (K := K) rfl) (bc (bR (K := K) rfl) (qv 1) (qv 3) (fun _ _ => rfl)) (fO (aI eT (qv 4) ai)) fN)))
    (au (bD (aI (gY (K := K) rfl) (aI (gY (K := K) rfl) (fe (ji (K := K) rfl) (qv 1) fN (fO (qv 3))) (dW (aa (qv 6) ae))) (fe (ji (K := K) rfl) (qv 1) (fO (aI eT (qv 3) ai)) fN)))))
      qss_nil)
    (aj (aU (i := 7) bG.nd rfl (Or.inl rfl) (km (aa (fq (vW (K := K) rfl) rfl bl.list_ sE (aa (qv 1) ae)) (aa (fq (nj (K := K) rfl) rfl bl.tuple_ gT (aa (kX (N' := ["_law_row"]) (tn := 1) (idx := []) rfl (show bf ["_law_bag_here", "_law_net_here", "_law_how", "_law_at", "_law_to", "_law_odd", "_law_row", "_law_some"] (ak dG) _ ["_law_row"] 1 [] from by decide +kernel) (mC (K := K) rfl (qv 1)) (fun _ _ _ _ _ => (bT (i := 0) (show List.Nodup [("_law_row" : Str)] from by decide +kernel) rfl (Or.inl rfl))) (fun _ _ _ _ _ => iW) (fun _ _ _ _ _ => (fq (vW (K := K) rfl) rfl bl.list_ sE (aa (qv 0) ae)))) ae)) (aa (dW ae) ae)))))
    (aj (aY (pz (K := K) rfl PySem.F.plainAttrs_list PySem.F.slot_list_append PySem.F.type_list_append lx (qv 7) (aa (aI (gY (K := K) rfl) (aI (gY (K := K) rfl) (fe (ji (K := K) rfl) (qv 1) fN (fO (qv 3))) (dW (aa (aI (gY (K := K) rfl) (bc (bR (K := K) rfl) (qv 1) (qv 3) (fun _ _ => rfl)) (dW (aa ai (aa ai ae)))) ae))) (fe (ji (K := K) rfl) (qv 1) (fO (aI eT (qv 3) ai)) fN)) ae)))
    (aj (wg 7 hM (aU (i := 7) bG.nd rfl (Or.inl rfl) (aI (Eh (K := K) rfl) (qv 7) (cT (aa (fe (ji (K := K) rfl) (aI Eg (qv 1) ai) fN (fO ai)) (aa (bc (bR (K := K) rfl) (cT (aa qp (aa ai (aa iU (aa fE (aa (cT (aa (cT (aa ai (aa ai ae))) ae)) (aa (dW (aa (dW (aa ai ae)) ae)) ae))))))) (ax aW (hr.mono (by decide)) rfl ah.mg ah.fn.kp ah.bd bH hP hw hK ht XR.none (aa (qv 0) (aa ai ae))) (fun _ _ => rfl)) ae))))))
    (au (bD (bc (bR (K := K) rfl) (qv 7) (aI jg (qv 2) ai) (fun _ _ => rfl)))))))))))), ?_⟩
  subst e
  have h9 := O.nine
  have h1 := O.one
  have Ln := O.wid
  have big : (1000 : Nat) < sizeLine := by decide
  obtain ⟨r0, a0, al⟩ := Bb O
  dsimp! only []
  refine ⟨b, 10, rfl, hb, by decide, by decide, fun how LV => ?_⟩
  dsimp! only []
  refine ⟨b, aD.length, rfl, hb, by omega, by omega, fun at_ iS => ?_⟩
  dsimp! only [a0, al]
  refine ⟨b, n, rfl, hb, by omega, by omega, fun to_ Ml => ?_⟩
  refine ⟨by omega, ⟨by decide, by decide, by decide⟩, by omega, by omega, b, 8, rfl, hb, by decide, by decide, fun o ho => ?_⟩
  have HF : o < (j5 aD.length).length := by show o < 8; omega
  have ea := bS (List.getElem?_eq_getElem HF)
  obtain ⟨ou, zp, HG⟩ := wJ h9 _ (List.getElem_mem HF)
  generalize (j5 aD.length)[o] = odd at ea ou zp HG
  unfold j5 at ea
  have q9 : at_ < aD.length := by omega
  have Jq := O.row _ (List.getElem_mem q9)
  simp only [ea, qY q9, eI]
  have c1 := @Bc
  have ml : (aD.map eI).length = aD.length := by simp
  have rl : (List.map Dv.int aD[at_]).length = n := by rw [List.length_map]; exact Jq.1
  refine dN (fun h => ?_) (fun h => ?_)
  · have k1 := c1 (xs := List.map Dv.int aD[at_]) (lo := none) (hi := some (to_ : Nat))
    have k2 := c1 (xs := List.map Dv.int aD[at_]) (lo := some ((to_ : Nat) + 1)) (hi := none)
    have k3 := c1 (xs := aD.map eI) (lo := none) (hi := some (at_ : Nat))
    have k4 := c1 (xs := aD.map eI) (lo := some ((at_ : Nat) + 1)) (hi := none)
    simp! only [qY q9, eI, List.length_append]
    refine ⟨by omega, by omega, by omega, by omega, by omega, by omega, ?_⟩
    obtain ⟨s1, s2⟩ := oF (r := .tup (L2.cutD (List.map Dv.int aD[at_]) none (some (to_ : Nat)) ++ [odd] ++ L2.cutD (List.map Dv.int aD[at_]) (some ((to_ : Nat) + 1)) none)) q9 (sZ fun d hd => by
      rcases List.mem_append.mp hd with hd | hd
      · rcases List.mem_append.mp hd with hd | hd
        · exact nG d (fS hd)
        · rw [List.mem_singleton] at hd; subst hd; exact ou
      · exact nG d (fS hd)) fun w hw => yB (d := odd) (by simp) zp
    exact .inl (q _ s1 s2)
  · refine ⟨by omega, sS (fun d => match d with | .tup ds => .lst ds | d => d) (fun τ M' => (∃ x, τ = [x]) ∧ M' = Γ.M0) ⟨⟨_, rfl⟩, rfl⟩ (fun d hd τ M' hJ R hR => ?_) (fun τ M' hJ => ?_)⟩
    · obtain ⟨⟨x, rfl⟩, rfl⟩ := hJ
      obtain ⟨r, hr, rfl⟩ := List.mem_map.mp hd
      exact hR _ _ ⟨⟨_, rfl⟩, rfl⟩
    obtain ⟨⟨x, rfl⟩, rfl⟩ := hJ
    have ey : (aD.map eI).map (fun d => match d with | .tup ds => Dv.lst ds | d => d) = aD.map g6 := by rw [List.map_map]; rfl
    rw [ey]
    have k3 := c1 (xs := aD.map eI) (lo := none) (hi := some (at_ : Nat))
    have k4 := c1 (xs := aD.map eI) (lo := some ((at_ : Nat) + 1)) (hi := none)
    refine ⟨by omega, by omega, fun a ha => ⟨by omega, by simp only [List.length_cons, List.length_nil]; omega, by omega, by omega, by simp only [List.length_append, List.length_cons, List.length_nil]; omega, by omega, ?_⟩⟩
    have pr : ∀ (r : Dv), Pin Γ.M0 r → Pin Γ.M0 (.tup (L2.cutD (aD.map eI) none (some (at_ : Nat)) ++ [r] ++ L2.cutD (aD.map eI) (some ((at_ : Nat) + 1)) none)) := fun r hp => .tup fun d hd => by
      rcases List.mem_append.mp hd with hd | hd
      · rcases List.mem_append.mp hd with hd | hd
        · obtain ⟨r, _, rfl⟩ := List.mem_map.mp (fS hd); exact jZ r
        · rw [List.mem_singleton] at hd; subst hd; exact hp
      · obtain ⟨r, _, rfl⟩ := List.mem_map.mp (fS hd); exact jZ r
    have p1 : Pin Γ.M0 (.lst (aD.map eI)) := .lst fun d hd => by obtain ⟨r, _, rfl⟩ := List.mem_map.mp hd; exact jZ r
    have p2 : Pin Γ.M0 (.tup (aD.map g6)) := .tup fun d hd => by obtain ⟨r, _, rfl⟩ := List.mem_map.mp hd; exact .lst (dX r)
    have p4 := pr (.tup (List.map Dv.int aD[at_] ++ [Dv.int 0, Dv.int 0])) (.tup fun d hd => by
      rcases List.mem_append.mp hd with hd | hd
      · exact dX _ d hd
      · simp at hd; rcases hd with rfl | rfl <;> exact .int 0)
    refine .inr ⟨a, _, rfl, updM_same, ha, ?_, ?_⟩
    · rw [mH ha]
      refine ⟨fun i d hi => ?_, fun b o e => .inl e⟩
      match i, hi with
      | 0, hi => cases hi; exact .ptr (by rw [hb]; rfl)
      | 1, hi => cases hi; exact v8 aD
      | 2, hi => cases hi; exact .int _
      | 3, hi => cases hi; exact .int _
      | 4, hi => cases hi; exact .int _
      | 5, hi => cases hi; exact HG _
      | 6, hi => cases hi
      | 7, hi =>
        cases hi
        refine .lst fun d hd => ?_
        simp only [List.mem_cons, List.not_mem_nil, or_false] at hd
        rcases hd with rfl | rfl | rfl | rfl
        · exact p1
        · exact p2
        · exact .tup (fun _ h => nomatch h)
        · exact p4
    · rw [mH ha]
      simp! only []
      have iQ : aD.map eI ≠ [] := fun z => by have := congrArg List.length z; rw [List.length_map, List.length_nil] at this; omega
      refine ⟨⟨iQ, by decide, by decide, by show aD.length * 10 ≤ 10000; omega⟩, by omega, by omega, by omega, by omega, by omega, b, 6, rfl, hb, by decide, by decide, fun j hj => ?_⟩
      have HH : j < j6.length := by show j < 6; omega
      have eb := bS (List.getElem?_eq_getElem HH)
      obtain ⟨HI, HJ⟩ := wK _ (List.getElem_mem HH)
      generalize j6[j] = oG at eb HI HJ
      unfold j6 at eb
      simp only [eb]
      refine ⟨by omega, by omega, ?_⟩
      have good := yC O q9 HI HJ
      have hh : how - 4 < (mR aD aD[at_] at_ oG).length := by show how - 4 < 6; omega
      have ed := bS (List.getElem?_eq_getElem hh)
      obtain ⟨g1, g2⟩ := good _ (List.getElem_mem hh)
      generalize (mR aD aD[at_] at_ oG)[how - 4] = res at ed g1 g2
      unfold mR at ed
      have LJ : 4 ≤ how := by simp at h; omega
      rw [show ((how : Nat) : Int) - 4 = ((how - 4 : Nat) : Int) by omega]
      simp only [ed]
      exact .inl (q _ g1 g2)
end
section
variable {P : Program} {w : World} {K : PySem.W.Frag} {mg : Str → Option Value} {base : Heap} {tb : eG} {C_RoadError C_NoNet C_NoPlace C_NoSign C_NoWord C_NoWhole C_NoNumber C_NoKin C_NoSet C_TooMany : Addr} {cs : List Addr}
theorem iZ : aG ["_law_what", "_law_net_here", "_law_good", "_law_odd", "e"] ["_law_what", "_law_net_here", "_law_good", "_law_odd"] (ak eW) := ⟨rfl, rfl, rfl, by decide +kernel, rfl, by decide +kernel, by decide +kernel⟩
noncomputable def jq (fs : List Addr) : List Dv := fs.map fun f => .raw (.ref f)
theorem i5 {fs : List Addr} {i : Int} (h0 : 0 ≤ i) (h1 : i < fs.length) : ∃ f ∈ fs, cB (jq fs) i = some (.raw (.ref f)) := by
  obtain ⟨k, rfl⟩ := Int.eq_ofNat_of_zero_le h0
  have hk : k < fs.length := by omega
  exact ⟨fs[k], List.getElem_mem hk, bS (by unfold jq; rw [List.getElem?_map, List.getElem?_eq_getElem hk]; rfl)⟩
theorem gk {CX : fk} {k : Nat} {sp : Sp} : fW P w K mg base CX k sp (· ∈ ([] : List Addr)) := fun _ h => nomatch h
theorem a8 {CX : fk} {j k : Nat} {sp : Sp} {f : Addr} {fd : FuncData} {ps : List Str} {fs : List Addr} (F : FnOk P w K mg base CX j f fd ps sp) (hj : j ≤ k) (kp : PySem.W.keepIn K (.ref f) = true) (bd : Binds K fd ps []) (h : fW P w K mg base CX k sp (· ∈ fs)) : fW P w K mg base CX k sp (· ∈ f :: fs) := fun g hg => by
  rcases List.mem_cons.mp hg with rfl | hg
  · exact ⟨fd, ps, F.mono hj, kp, bd⟩
  · exact h g hg
noncomputable def wL : dM := fun ds M Q _ => ∃ (what : Nat) (bad : Dv) (aD : List (List Int)) (n : Nat) (odd : Dv), ds = [.int (what : Nat), bad, eN aD, odd] ∧ what < 21 ∧ eL bad = true ∧ cZ bad = false ∧ mi aD n ∧ Q (.bl true) M
theorem oW {f dA fT bF hU d8 dB c6 dC d9 hV fj cx ee cK jr js fU iE iF : Addr} {fd iG lC eO nI jt iH hZ iI ju nJ j7 fV jv gq ra rg lD h8 ia : FuncData} (D : Df K mg "_law_answer" eW ["_law_what", "_law_net_here", "_law_good", "_law_odd"] f fd)
    (bO : Df K mg "signs_of" fH ["net"] dA iG) (eu : FnOk P w K mg base (aK P w) 8 dA iG ["net"] (aB P w K tb (bo C_NoNet 0)))
    (di : Df K mg "parts" iX ["net"] fT lC) (gJ : FnOk P w K mg base (aK P w) 8 fT lC ["net"] (aB P w K tb (bo C_NoNet 0)))
    (aX : Df K mg "hangs_together" cH ["net"] bF eO) (bV : FnOk P w K mg base (aK P w) 9 bF eO ["net"] (aB P w K tb (bo C_NoNet 0)))
    (i6 : Df K mg "beat" mI ["net"] hU nI) (rh : FnOk P w K mg base (aK P w) 11 hU nI ["net"] (aB P w K tb (bo C_NoNet 0)))
    (ft : Df K mg "weights" ix ["net"] d8 jt) (j8 : FnOk P w K mg base (aK P w) 11 d8 jt ["net"] (aB P w K tb (bo C_NoNet 0)))
    (bP : Df K mg "signings" fI ["net"] dB iH) (ez : FnOk P w K mg base (aK P w) 8 dB iH ["net"] (aB P w K tb (bo C_NoNet 0)))
    (dH : Df K mg "number_of" fX ["net"] c6 hZ) (iJ : FnOk P w K mg base (aK P w) 8 c6 hZ ["net"] (aB P w K tb (bo C_NoNet 0)))
    (eA : Df K mg "all_maps" gC ["net"] dC iI) (jw : FnOk P w K mg base (aK P w) 8 dC iI ["net"] (aB P w K tb (bo C_NoNet 0)))
    (fu : Df K mg "is_word" iu ["net", "thing"] d9 ju) (j9 : FnOk P w K mg base (aK P w) 9 d9 ju ["net", "thing"] (aB P w K tb (bo C_NoNet 1)))
    (i7 : Df K mg "left" mK ["net", "word"] hV nJ) (rj : FnOk P w K mg base (aK P w) 9 hV nJ ["net", "word"] (aB P w K tb (bo C_NoNet 1)))
    (bz : Df K mg "map_of" fP ["net", "word"] fj j7) (dz : FnOk P w K mg base (aK P w) 8 fj j7 ["net", "word"] (aB P w K tb (bo C_NoNet 1)))
    (cM : Df K mg "comes_round" eV ["net", "word"] cx fV) (gr : FnOk P w K mg base (aK P w) 9 cx fV ["net", "word"] (aB P w K tb (bo C_NoNet 1)))
    (fv : Df K mg "signing" iw ["net", "number"] ee jv) (ka : FnOk P w K mg base (aK P w) 10 ee jv ["net", "number"] (aB P w K tb (bo C_NoNet 1)))
    (a7 : Df K mg "same_roads" dZ ["one", "other"] cK gq) (cJ : FnOk P w K mg base (aK P w) 8 cK gq ["one", "other"] (aB P w K tb (nE C_NoNet)))
    (ku : Df K mg "led" pC ["net", "place", "word"] jr ra) (uq : FnOk P w K mg base (aK P w) 8 jr ra ["net", "place", "word"] (aB P w K tb (bo C_NoNet 2)))
    (ky : Df K mg "way" pD ["net", "start", "goal"] js rg) (ur : FnOk P w K mg base (aK P w) 8 js rg ["net", "start", "goal"] (aB P w K tb (bo C_NoNet 2)))
    (gK : Df K mg "image" kr ["net", "places", "word"] fU lD) (nK : FnOk P w K mg base (aK P w) 8 fU lD ["net", "places", "word"] (aB P w K tb (bo C_NoNet 2)))
    (dI : Df K mg "exchanged" fY ["net", "place", "one", "other"] iE h8) (iK : FnOk P w K mg base (aK P w) 8 iE h8 ["net", "place", "one", "other"] (aB P w K tb (bo C_NoNet 3)))
    (b5 : Df K mg "exchanges" fZ ["one", "other"] iF ia) (f6 : FnOk P w K mg base (aK P w) 9 iF ia ["one", "other"] (aB P w K tb (nE C_NoNet)))
    (X_ : qo K C_RoadError cs) (bw : C_NoNet ∈ cs) (kb : C_NoPlace ∈ cs) (lF : C_NoSign ∈ cs) (lH : C_NoWord ∈ cs) (kc : C_NoWhole ∈ cs) (jx : C_NoNumber ∈ cs) (nM : C_NoKin ∈ cs) (nN : C_NoSet ∈ cs) (ke : C_TooMany ∈ cs) (nd : [C_NoNet, C_NoPlace, C_NoSign, C_NoWord, C_NoWhole, C_NoNumber, C_NoKin, C_NoSet, C_TooMany].Nodup)
    (iL : mg "RoadError" = some (.ref C_RoadError)) (gI : mg "NoNet" = some (.ref C_NoNet)) (kf : mg "NoPlace" = some (.ref C_NoPlace)) (lJ : mg "NoSign" = some (.ref C_NoSign)) (lK : mg "NoWord" = some (.ref C_NoWord)) (kg : mg "NoWhole" = some (.ref C_NoWhole)) (jy : mg "NoNumber" = some (.ref C_NoNumber)) (nO : mg "NoKin" = some (.ref C_NoKin)) (nP : mg "NoSet" = some (.ref C_NoSet)) (kh : mg "TooMany" = some (.ref C_TooMany)) (bl : Bl mg) :
    FnOk P w K mg base b9 12 f fd ["_law_what", "_law_net_here", "_law_good", "_law_odd"] (aB P w K tb wL) := by
  refine gZ D iZ (fun ds M Q E hS => by obtain ⟨what, bad, aD, n, odd, e, _⟩ := hS; rw [e]; rfl) fun A outer s E Γ ds Q' E' hP hw hK ht hr hS => ?_
  obtain ⟨what, bad, aD, n, odd, e, LK, hk, hb, O, q⟩ := hS
  have Jr : fW P w K mg base (aK P w) 11 (aB P w K tb (bo C_NoNet 0)) (· ∈ [dA, fT, bF, hU, d8]) := a8 (f := dA) eu (by decide) bO.fn.kp bO.bd (a8 (f := fT) gJ (by decide) di.fn.kp di.bd (a8 (f := bF) bV (by decide) aX.fn.kp aX.bd (a8 (f := hU) rh (by decide) i6.fn.kp i6.bd (a8 (f := d8) j8 (by decide) ft.fn.kp ft.bd gk))))
  have Js : fW P w K mg base (aK P w) 11 (aB P w K tb (bo C_NoNet 0)) (· ∈ [dB, c6, dC]) := a8 (f := dB) ez (by decide) bP.fn.kp bP.bd (a8 (f := c6) iJ (by decide) dH.fn.kp dH.bd (a8 (f := dC) jw (by decide) eA.fn.kp eA.bd gk))
  have Jt : fW P w K mg base (aK P w) 11 (aB P w K tb (bo C_NoNet 1)) (· ∈ [d9, hV, fj, cx]) := a8 (f := d9) j9 (by decide) fu.fn.kp fu.bd (a8 (f := hV) rj (by decide) i7.fn.kp i7.bd (a8 (f := fj) dz (by decide) bz.fn.kp bz.bd (a8 (f := cx) gr (by decide) cM.fn.kp cM.bd gk)))
  have Ju : fW P w K mg base (aK P w) 11 (aB P w K tb (bo C_NoNet 1)) (· ∈ [ee, cK]) := a8 (f := ee) ka (by decide) fv.fn.kp fv.bd (a8 (f := cK) (yw cJ) (by decide) a7.fn.kp a7.bd gk)
  have Jv : fW P w K mg base (aK P w) 11 (aB P w K tb (bo C_NoNet 2)) (· ∈ [jr, js, fU]) := a8 (f := jr) uq (by decide) ku.fn.kp ku.bd (a8 (f := js) ur (by decide) ky.fn.kp ky.bd (a8 (f := fU) nK (by decide) gK.fn.kp gK.bd gk))
  refine ⟨_, (aj (D6 (i := 4) (nn := 5) rfl iZ.nd rfl rfl ⟨rfl, rfl⟩ rfl X_.top rfl iL (fun T pn EE E2 mL Lp Lq Lr zv hp mS => by
      have hP := hP.trans Lp.symm
      have hw := hw.trans Lq.symm
      have hK := hK.trans Lr.symm
      have ht := ht.trans zv.symm
      exact (au (bJ (bC iC (qv 0) ai (bN _))
      (au (aY (g7 Jr (hr.mono (by decide)) hp hP hw hK ht mS (bc (bR (K := K) rfl) (cT (aa (aQ (v := .ref dA) rfl bO.mg rfl) (aa (aQ (v := .ref fT) rfl di.mg rfl) (aa (aQ (v := .ref bF) rfl aX.mg rfl) (aa (aQ (v := .ref hU) rfl i6.mg rfl) (aa (aQ (v := .ref d8) rfl ft.mg rfl) ae)))))) (qv 0) (fun _ _ => rfl)) (aa (qv 1) ae))))
      (au (bJ (bC iC (qv 0) ai (bN _))
      (au (aY (g7 Js (hr.mono (by decide)) hp hP hw hK ht mS (bc (bR (K := K) rfl) (cT (aa (aQ (v := .ref dB) rfl bP.mg rfl) (aa (aQ (v := .ref c6) rfl dH.mg rfl) (aa (aQ (v := .ref dC) rfl eA.mg rfl) ae)))) (aI jg (qv 0) ai) (fun _ _ => rfl)) (aa (qv 1) ae))))
      (au (bJ (bC iC (qv 0) ai (bN _))
      (au (aY (g7 Jt (hr.mono (by decide)) hp hP hw hK ht mS (bc (bR (K := K) rfl) (cT (aa (aQ (v := .ref d9) rfl fu.mg rfl) (aa (aQ (v := .ref hV) rfl i7.mg rfl) (aa (aQ (v := .ref fj) rfl bz.mg rfl) (aa (aQ (v := .ref cx) rfl cM.mg rfl) ae))))) (aI jg (qv 0) ai) (fun _ _ => rfl)) (aa (qv 1) (aa (qv 3) ae)))))
      (au (bJ (bC iC (qv 0) ai (bN _))
      (au (aY (g7 Ju (hr.mono (by decide)) hp hP hw hK ht mS (bc (bR (K := K) rfl) (cT (aa (aQ (v := .ref ee) rfl fv.mg rfl) (aa (aQ (v := .ref cK) rfl a7.mg rfl) ae))) (aI jg (qv 0) ai) (fun _ _ => rfl)) (aa (qv 1) (aa (qv 3) ae)))))
      (au (bJ (bC iC (qv 0) ai (bN _))
      (au (aY (g7 Jv (hr.mono (by decide)) hp hP hw hK ht mS (bc (bR (K := K) rfl) (cT (aa (aQ (v := .ref jr) rfl ku.mg rfl) (aa (aQ (v := .ref js) rfl ky.mg rfl) (aa (aQ (v := .ref fU) rfl gK.mg rfl) ae)))) (aI jg (qv 0) ai) (fun _ _ => rfl)) (aa (qv 1) (aa (qv 3) (aa (qv 3) ae))))))
      (au (bJ (bC lr (qv 0) ai (bN _))
      (au (aY (ax iK (hr.mono (by decide)) rfl dI.mg dI.fn.kp dI.bd hp hP hw hK ht mS (aa (qv 1) (aa (qv 3) (aa (qv 3) (aa (qv 3) ae)))))))
      (au (bJ (bC lr (qv 0) ai (bN _))
      (au (aY (ax f6 (hr.mono (by decide)) rfl b5.mg b5.fn.kp b5.bd hp hP hw hK ht mS (aa (qv 1) (aa (qv 2) ae)))))
      (au (bJ (bC lr (qv 0) ai (bN _))
      (au (aY (ax f6 (hr.mono (by decide)) rfl b5.mg b5.fn.kp b5.bd hp hP hw hK ht mS (aa (qv 2) (aa (qv 1) ae)))))
      (au (aY (ax cJ (hr.mono (by decide)) rfl a7.mg a7.fn.kp a7.bd hp hP hw hK ht mS (aa (qv 2) (aa (qv 1) ae))))))))))))))))))))))
      (fun ea => (aj (bJ (fF (aS (t6 (K := K) rfl) rfl bl.isinstance_ cq (aa (qv 4) (aa (dW (aa (aQ (v := .ref C_NoKin) rfl nO rfl) (aa (aQ (v := .ref C_NoNumber) rfl jy rfl) (aa (aQ (v := .ref C_NoPlace) rfl kf rfl) (aa (aQ (v := .ref C_NoSet) rfl nP rfl) (aa (aQ (v := .ref C_NoSign) rfl lJ rfl) (aa (aQ (v := .ref C_NoWhole) rfl kg rfl) (aa (aQ (v := .ref C_NoWord) rfl lK rfl) (aa (aQ (v := .ref C_TooMany) rfl kh rfl) ae))))))))) ae))))
      (au (bD fE))
      qss_nil)
    (au (bD (qy (aS (t6 (K := K) rfl) rfl bl.isinstance_ cq (aa (qv 4) (aa (aQ (v := .ref C_NoNet) rfl gI rfl) ae))) (qw (aS (t6 (K := K) rfl) rfl bl.isinstance_ cq (aa (qv 4) (aa (iV (v := .ty "ValueError") rfl bl.ValueError_ oJ rfl) ae))))))))))
    (au (bD fE))), ?_⟩
  subst e
  have Ls : ∀ D ∈ [C_NoKin, C_NoNumber, C_NoPlace, C_NoSet, C_NoSign, C_NoWhole, C_NoWord, C_TooMany], D ∈ cs := by simp [nM, jx, kb, nN, lF, kc, lH, ke]
  have aN : PySem.W.kitAny K (.ref C_NoNet) ([C_NoKin, C_NoNumber, C_NoPlace, C_NoSet, C_NoSign, C_NoWhole, C_NoWord, C_TooMany].map Value.ref) = some false := by
    rw [X_.any bw Ls]
    congr 1
    refine decide_eq_false fun z => ?_
    simp only [List.mem_cons, List.not_mem_nil, or_false] at z
    rcases z with z | z | z | z | z | z | z | z <;> simp [z] at nd
  simp only [List.map_cons, List.map_nil] at aN
  have cN := X_.cl _ bw
  have mU : PySem.W.kitOne K (.ref C_NoNet) (.ref C_NoNet) = some true := by rw [X_.one _ bw _ bw, decide_eq_true rfl]
  have vN := X_.val _ bw
  simp! only []
  refine dN (fun h0 => ?_) (fun h0 => ?_)
  · obtain ⟨g, hg, ea⟩ := i5 (fs := [dA, fT, bF, hU, d8]) (i := (what : Int)) (by first | (simp at *; done) | (simp at *; omega)) (by first | (simp at *; done) | (simp at *; omega))
    simp only [jq, List.map_cons, List.map_nil] at ea
    simp only [ea]
    refine ⟨by decide, ⟨g, rfl, hg⟩, bad, [], rfl, rfl, hk, hb, ⟨X_.sub _ bw, by decide, cN, [C_NoKin, C_NoNumber, C_NoPlace, C_NoSet, C_NoSign, C_NoWhole, C_NoWord, C_TooMany], rfl, ?_⟩⟩
    simp! only [aN, mU, vN]
    exact ⟨cN, cN, .inl q⟩
  refine dN (fun h1 => ?_) (fun h1 => ?_)
  · obtain ⟨g, hg, ea⟩ := i5 (fs := [dB, c6, dC]) (i := (what : Int) - 5) (by first | (simp at *; done) | (simp at *; omega)) (by first | (simp at *; done) | (simp at *; omega))
    simp only [jq, List.map_cons, List.map_nil] at ea
    simp only [ea]
    refine ⟨by decide, ⟨g, rfl, hg⟩, bad, [], rfl, rfl, hk, hb, ⟨X_.sub _ bw, by decide, cN, [C_NoKin, C_NoNumber, C_NoPlace, C_NoSet, C_NoSign, C_NoWhole, C_NoWord, C_TooMany], rfl, ?_⟩⟩
    simp! only [aN, mU, vN]
    exact ⟨cN, cN, .inl q⟩
  refine dN (fun h2 => ?_) (fun h2 => ?_)
  · obtain ⟨g, hg, ea⟩ := i5 (fs := [d9, hV, fj, cx]) (i := (what : Int) - 8) (by first | (simp at *; done) | (simp at *; omega)) (by first | (simp at *; done) | (simp at *; omega))
    simp only [jq, List.map_cons, List.map_nil] at ea
    simp only [ea]
    refine ⟨by decide, ⟨g, rfl, hg⟩, bad, [odd], rfl, rfl, hk, hb, ⟨X_.sub _ bw, by decide, cN, [C_NoKin, C_NoNumber, C_NoPlace, C_NoSet, C_NoSign, C_NoWhole, C_NoWord, C_TooMany], rfl, ?_⟩⟩
    simp! only [aN, mU, vN]
    exact ⟨cN, cN, .inl q⟩
  refine dN (fun h3 => ?_) (fun h3 => ?_)
  · obtain ⟨g, hg, ea⟩ := i5 (fs := [ee, cK]) (i := (what : Int) - 12) (by first | (simp at *; done) | (simp at *; omega)) (by first | (simp at *; done) | (simp at *; omega))
    simp only [jq, List.map_cons, List.map_nil] at ea
    simp only [ea]
    refine ⟨by decide, ⟨g, rfl, hg⟩, bad, [odd], rfl, rfl, hk, hb, ⟨X_.sub _ bw, by decide, cN, [C_NoKin, C_NoNumber, C_NoPlace, C_NoSet, C_NoSign, C_NoWhole, C_NoWord, C_TooMany], rfl, ?_⟩⟩
    simp! only [aN, mU, vN]
    exact ⟨cN, cN, .inl q⟩
  refine dN (fun h4 => ?_) (fun h4 => ?_)
  · obtain ⟨g, hg, ea⟩ := i5 (fs := [jr, js, fU]) (i := (what : Int) - 14) (by first | (simp at *; done) | (simp at *; omega)) (by first | (simp at *; done) | (simp at *; omega))
    simp only [jq, List.map_cons, List.map_nil] at ea
    simp only [ea]
    refine ⟨by decide, ⟨g, rfl, hg⟩, bad, [odd, odd], rfl, rfl, hk, hb, ⟨X_.sub _ bw, by decide, cN, [C_NoKin, C_NoNumber, C_NoPlace, C_NoSet, C_NoSign, C_NoWhole, C_NoWord, C_TooMany], rfl, ?_⟩⟩
    simp! only [aN, mU, vN]
    exact ⟨cN, cN, .inl q⟩
  refine dN (fun h5 => ?_) (fun h5 => dN (fun h6 => ?_) (fun h6 => dN (fun h7 => ?_) (fun h7 => ?_)))
  · refine ⟨bad, [odd, odd, odd], rfl, rfl, hk, hb, ⟨X_.sub _ bw, by decide, cN, [C_NoKin, C_NoNumber, C_NoPlace, C_NoSet, C_NoSign, C_NoWhole, C_NoWord, C_TooMany], rfl, ?_⟩⟩
    simp! only [aN, mU, vN]
    exact ⟨cN, cN, .inl q⟩
  · refine ⟨bad, eN aD, rfl, hk, fun h => (by rw [hb] at h; cases h), ⟨X_.sub _ bw, by decide, cN, [C_NoKin, C_NoNumber, C_NoPlace, C_NoSet, C_NoSign, C_NoWhole, C_NoWord, C_TooMany], rfl, ?_⟩⟩
    simp! only [aN, mU, vN]
    exact ⟨cN, cN, .inl q⟩
  · refine ⟨eN aD, bad, rfl, sY aD, fun _ => ⟨hk, hb⟩, ⟨X_.sub _ bw, by decide, cN, [C_NoKin, C_NoNumber, C_NoPlace, C_NoSet, C_NoSign, C_NoWhole, C_NoWord, C_TooMany], rfl, ?_⟩⟩
    simp! only [aN, mU, vN]
    exact ⟨cN, cN, .inl q⟩
  · refine ⟨eN aD, bad, rfl, sY aD, fun _ => ⟨hk, hb⟩, ⟨X_.sub _ bw, by decide, cN, [C_NoKin, C_NoNumber, C_NoPlace, C_NoSet, C_NoSign, C_NoWhole, C_NoWord, C_TooMany], rfl, ?_⟩⟩
    simp! only [aN, mU, vN]
    exact ⟨cN, cN, .inl q⟩
end
section
variable {P : Program} {w : World} {K : PySem.W.Frag} {mg : Str → Option Value} {base : Heap} {tb : eG} {C_NoNet : Addr}
theorem ib : aG ["_law_script", "_law_k", "_law_bag_here", "_law_good", "_law_net_here", "_law_odd", "_law_what"] ["_law_script"] (ak ub) := ⟨rfl, rfl, rfl, by decide +kernel, rfl, by decide +kernel, by decide +kernel⟩
noncomputable def uv : List Dv := [.aC, .int (-1), .int (10 ^ Int.toNat 30), .str (Str.ofString "d"), .str (Str.ofString ""), .lst [.int 0], .tup [], .bl true, .int 0, .str (Str.ofString "a")]
theorem EJ {f f1 f2 f3 f4 f5 : Addr} {fd aL fd2 wG HK HL : FuncData} (D : Df K mg "law" ub ["_law_script"] f fd)
    (eB : Df K mg "_law_bag" gD ["_law_script", "_law_at"] f1 aL) (uw : FnOk P w K mg base b9 1 f1 aL ["_law_script", "_law_at"] (aB P w K tb El))
    (eC : Df K mg "_law_net" dy ["_law_bag_here", "_law_most"] f2 fd2) (ux : FnOk P w K mg base b9 3 f2 fd2 ["_law_bag_here", "_law_most"] (aB P w K tb zQ))
    (ah : Df K mg "_law_take" cX ["_law_bag_here", "_law_many"] f3 wG) (aW : FnOk P w K mg base b9 1 f3 wG ["_law_bag_here", "_law_many"] (aB P w K tb mO))
    (cO : Df K mg "_law_spoilt" dG ["_law_bag_here", "_law_net_here"] f4 HK) (oX : FnOk P w K mg base b9 2 f4 HK ["_law_bag_here", "_law_net_here"] (aB P w K tb td))
    (cP : Df K mg "_law_answer" eW ["_law_what", "_law_net_here", "_law_good", "_law_odd"] f5 HL) (oY : FnOk P w K mg base b9 12 f5 HL ["_law_what", "_law_net_here", "_law_good", "_law_odd"] (aB P w K tb wL)) (bl : Bl mg) :
    FnOk P w K mg base b9 13 f fd ["_law_script"] (aB P w K tb D7) := by
  refine gZ D ib (fun ds M Q E hS => by obtain ⟨ns, e, _⟩ := hS; rw [e]; rfl) fun A outer s E Γ ds Q' E' hP hw hK ht hr hS => ?_
  obtain ⟨ns, e, hl, hM, q⟩ := hS
  refine ⟨_, (aj (fG PassesOwn.never rfl (cD rfl bl.range_ (aa (aS (D0 rfl) rfl bl.max_ Dp (aa ai (aa (aS (qB rfl) rfl bl.min_ p7 (aa ai (aa (aS (eU (K := K) rfl hK) rfl bl.len_ PySem.boot_len (aa (qv 0) ae)) ae))) ae))) ae)) (fun mL eP ew eK et => by have hP := hP.trans eP.symm; have hw := hw.trans ew.symm; have hK := hK.trans eK.symm; have ht := ht.trans et.symm; exact ⟨(bT (i := 1) ib.nd rfl (Or.inl rfl)), (aj (aU (i := 2) ib.nd rfl (Or.inl rfl) (ax uw (hr.mono (by decide)) rfl eB.mg eB.fn.kp eB.bd bH hP hw hK ht XR.none (aa (qv 0) (aa (qv 1) ae))))
    (aj (aU (i := 3) ib.nd rfl (Or.inl rfl) (ax ux (hr.mono (by decide)) rfl eC.mg eC.fn.kp eC.bd bH hP hw hK ht XR.none (aa (qv 2) (aa ai ae))))
    (aj (aU (i := 4) ib.nd rfl (Or.inl rfl) (ax oX (hr.mono (by decide)) rfl cO.mg cO.fn.kp cO.bd bH hP hw hK ht XR.none (aa (qv 2) (aa (qv 3) ae))))
    (aj (aU (i := 5) ib.nd rfl (Or.inl rfl) (bc (bR (K := K) rfl) (cT (aa qp (aa (v7 ai) (aa (aI t4 ai ai) (aa iU (aa iU (aa (cT (aa ai ae)) (aa (dW ae) (aa fE (aa ai (aa iU ae))))))))))) (ax aW (hr.mono (by decide)) rfl ah.mg ah.fn.kp ah.bd bH hP hw hK ht XR.none (aa (qv 2) (aa ai ae))) (fun _ _ => rfl)))
    (au (fG PassesOwn.never rfl (cD rfl bl.range_ (aa ai ae)) (fun mL eP ew eK et => by have hP := hP.trans eP.symm; have hw := hw.trans ew.symm; have hK := hK.trans eK.symm; have ht := ht.trans et.symm; exact ⟨(bT (i := 6) ib.nd rfl (Or.inl rfl)), (au (bJ (gh (fF (ax oY (hr.mono (by decide)) rfl cP.mg cP.fn.kp cP.bd bH hP hw hK ht XR.none (aa (qv 6) (aa (qv 4) (aa (qv 3) (aa (qv 5) ae)))))))
      (au (bD fE))
      qss_nil))⟩)))))))⟩))
    (au (bD fE))), ?_⟩
  subst e
  have big : (10000 : Nat) < sizeLine := by decide
  dsimp! only []
  refine ⟨by split <;> split <;> omega, by split <;> split <;> omega, ?_⟩
  refine dm (fun k ρ M => (∃ x1 x2 x3 x4 x5 x6, ρ = [some (.bp ns), x1, x2, x3, x4, x5, x6])) ⟨_, _, _, _, _, _, rfl⟩ (fun k d ρ M N hd hJ hN => ?_) (fun ρ M _ => .inl (q _))
  obtain ⟨x1, x2, x3, x4, x5, x6, rfl⟩ := hJ
  obtain ⟨rfl, hk⟩ := cU hd
  have hk : k ≤ 8 := by split at hk <;> split at hk <;> omega
  dsimp! only []
  refine ⟨ns, _, rfl, hl, by omega, by omega, fun b hb => ?_⟩
  refine ⟨b, 9, rfl, updM_same, by omega, by omega, fun aD n O _ => ?_⟩
  refine ⟨b, aD, n, rfl, updM_same, O, fun bad Lv Lw => ?_⟩
  dsimp! only []
  refine ⟨⟨by decide, by decide, by decide⟩, by omega, by omega, by omega, b, 10, rfl, updM_same, by decide, by decide, fun j hj => ?_⟩
  have Jw : j < uv.length := by show j < 10; omega
  have ea := bS (List.getElem?_eq_getElem Jw)
  generalize uv[j] = odd at ea
  unfold uv at ea
  simp only [ea]
  refine ⟨by decide, by decide, ?_⟩
  refine dm (fun i ρ M => (∃ x, ρ = [some (.bp ns), some (.int (k : Nat)), some (.ptr b), some (eN aD), some bad, some odd, x]) ∧ M = az M b .cQ) ⟨⟨_, rfl⟩, updM_updM.symm⟩ (fun i d ρ M N2 hd hJ mM => ?_) (fun ρ M hJ => ?_)
  · obtain ⟨⟨x, rfl⟩, eM⟩ := hJ
    obtain ⟨rfl, hi⟩ := cU hd
    dsimp! only []
    have Jx : i < 21 := by simpa using hi
    refine ⟨i, bad, aD, n, odd, by simp, Jx, Lv, Lw, O, ?_⟩
    dsimp! only []
    exact mM _ _ ⟨⟨_, by simp; rfl⟩, eM⟩
  · obtain ⟨⟨x, rfl⟩, eM⟩ := hJ
    exact hN _ _ ⟨_, _, _, _, _, _, rfl⟩
end
end My
local macro_rules | `(tactic| simp! only [$xs,*] $[$l]?) => `(tactic| simp only [zVar, zMaxL, zC, zOp, zII, zIC, zEq, zNe, scalZ, zIs, zIsN, isNonD, zSS, zTest, zBool, zChain, zAnd, zOr, zNot, zAndV, zOrV, zNotV, zIfE, zNil, zCons, zTup, zLst, zLstP, zCB, z1, zLenD, z2I, zAbs, zDivmod, zInt, zList, zListP, zTuple, zSorted, zSet, zLenS, intsM, itemsM, zIsInst, isD, zBM, tyZ, zAppend, zExtend, zPop, zPopAt, zIndexS, zCount, zSum, zReverse, zSetI, zgSub, zNext, zSeq, zDrop, zRet, zRetN, zIfS, zgName, zgNil, zgCons, zgTup, zAsg, zFor, zForM, zComp, zCompP, zTupG, zAll, zSetC, zBlock, zCall, zTry, zRaise, zIsE, zstart, zEndsOf, ziTup, ziLst, ziStr, ziRng1, ziRng2, ziEnumK, ziZip, ziKeys, ziItems, seqK, zoNone, zoSome, zSl, zSlT, zSlS, zSlL, zIx, zRangeT, zRangeL, zRangeP, zNeg, zTruth, truD, zCatT, zNoIf, zInI, zAllB, zGetR, zDIn, zMGet, lookD, nowK, keyD, zDNewK, zDNewT, zDisp1K, zDisp1T, zDPut, zLenK, zLenT, zRepT, zRepL, zCatLD, zCatLP, zClear, zIxS, zListDP, zCallX, zNever, zCallL0, zCountB, boolsD, keysL, zRepP, zMinL, zMulS, zCallL, List.getElem?_cons_zero, List.getElem?_cons_succ, List.map_cons, List.map_nil, List.nil_append, List.cons_append, List.length_cons, List.length_nil, List.replicate_succ, List.replicate_zero, List.set_cons_zero, List.set_cons_succ, Option.join_some, Nat.reduceAdd, Nat.reduceSub, Nat.sub_self, Nat.zero_add, if_true, if_false, Bool.false_eq_true, Bool.not_true, Bool.not_false, true_and, and_true, beq_self_eq_true, String.reduceBEq, zLoop, List.length_map, List.length_set, updM_same, updM_updM, List.append_nil, Int.zero_add, Int.toNat_natCast, rangeD_len, pairsD_len, numD_len, Nat.min_self, atI_zero, decide_true, decide_false, Bool.not_eq_true, bne_self_eq_false, $xs,*] $[$l]?)
local macro_rules | `(tactic| dsimp! only [$xs,*] $[$l]?) => `(tactic| simp only [zVar, zMaxL, zC, zOp, zII, zIC, zEq, zNe, scalZ, zIs, zIsN, isNonD, zSS, zTest, zBool, zChain, zAnd, zOr, zNot, zAndV, zOrV, zNotV, zIfE, zNil, zCons, zTup, zLst, zLstP, zCB, z1, zLenD, z2I, zAbs, zDivmod, zInt, zList, zListP, zTuple, zSorted, zSet, zLenS, intsM, itemsM, zIsInst, isD, zBM, tyZ, zAppend, zExtend, zPop, zPopAt, zIndexS, zCount, zSum, zReverse, zSetI, zgSub, zNext, zSeq, zDrop, zRet, zRetN, zIfS, zgName, zgNil, zgCons, zgTup, zAsg, zFor, zForM, zComp, zCompP, zTupG, zAll, zSetC, zBlock, zCall, zTry, zRaise, zIsE, zstart, zEndsOf, ziTup, ziLst, ziStr, ziRng1, ziRng2, ziEnumK, ziZip, ziKeys, ziItems, seqK, zoNone, zoSome, zSl, zSlT, zSlS, zSlL, zIx, zRangeT, zRangeL, zRangeP, zNeg, zTruth, truD, zCatT, zNoIf, zInI, zAllB, zGetR, zDIn, zMGet, lookD, nowK, keyD, zDNewK, zDNewT, zDisp1K, zDisp1T, zDPut, zLenK, zLenT, zRepT, zRepL, zCatLD, zCatLP, zClear, zIxS, zListDP, zCallX, zNever, zCallL0, zCountB, boolsD, keysL, zRepP, zMinL, zMulS, zCallL, List.getElem?_cons_zero, List.getElem?_cons_succ, List.map_cons, List.map_nil, List.nil_append, List.cons_append, List.length_cons, List.length_nil, List.replicate_succ, List.replicate_zero, List.set_cons_zero, List.set_cons_succ, Option.join_some, Nat.reduceAdd, Nat.reduceSub, Nat.sub_self, Nat.zero_add, if_true, if_false, Bool.false_eq_true, Bool.not_true, Bool.not_false, true_and, and_true, beq_self_eq_true, String.reduceBEq, List.length_map, List.length_set, updM_same, updM_updM, List.append_nil, Int.zero_add, Int.toNat_natCast, rangeD_len, pairsD_len, numD_len, Nat.min_self, atI_zero, decide_true, decide_false, Bool.not_eq_true, bne_self_eq_false, $xs,*] $[$l]?)
namespace My
open PySem L2 PyProof.Rows
theorem all_mk {l : PySem.W.OpenLaw} {w : World} {K : PySem.W.Frag} {h : Heap} {mg : Str → Option Value} {fa : Addr} {tabs lts : List Addr} {C_RoadError C_NoNet C_NoPlace C_NoSign C_NoWord C_NoWhole C_NoNumber C_NoKin C_NoSet C_TooMany : Addr} (X : K.In h) (G : h.Ns mainGlobals mg) (Lx : mg "law" = some (.ref fa))
    (T : Paired (TabOf mg h) ["is_row", "is_net"] tabs) (U : Paired (TabOf mg h) [] lts)
    (sd : PySem.W.nsIn K mainGlobals "RoadError" = some (some (.ref C_RoadError)))
    (Bd : PySem.W.nsIn K mainGlobals "NoNet" = some (some (.ref C_NoNet)))
    (wM : PySem.W.nsIn K mainGlobals "NoPlace" = some (some (.ref C_NoPlace)))
    (yD : PySem.W.nsIn K mainGlobals "NoSign" = some (some (.ref C_NoSign)))
    (yE : PySem.W.nsIn K mainGlobals "NoWord" = some (some (.ref C_NoWord)))
    (wN : PySem.W.nsIn K mainGlobals "NoWhole" = some (some (.ref C_NoWhole)))
    (uy : PySem.W.nsIn K mainGlobals "NoNumber" = some (some (.ref C_NoNumber)))
    (Be : PySem.W.nsIn K mainGlobals "NoKin" = some (some (.ref C_NoKin)))
    (Bf : PySem.W.nsIn K mainGlobals "NoSet" = some (some (.ref C_NoSet)))
    (wO : PySem.W.nsIn K mainGlobals "TooMany" = some (some (.ref C_TooMany)))
    (eb : tS K C_RoadError [C_NoNet, C_NoPlace, C_NoSign, C_NoWord, C_NoWhole, C_NoNumber, C_NoKin, C_NoSet, C_TooMany] = true) (Ly : [C_NoNet, C_NoPlace, C_NoSign, C_NoWord, C_NoWhole, C_NoNumber, C_NoKin, C_NoSet, C_TooMany].Nodup)
    (uz : aH K "is_whole" dw)
    (lL : aH K "is_whole_below" bU)
    (lM : aH K "common_divisor" ly)
    (yF : aH K "is_row" g8)
    (yG : aH K "is_net" g9)
    (uA : aH K "need_net" bj)
    (uB : aH K "signs_of" fH)
    (rk : aH K "all_places" qJ)
    (uC : aH K "is_place" t9)
    (rn : aH K "need_place" qK)
    (wQ : aH K "is_sign" wx)
    (se : aH K "need_sign" rK)
    (wR : aH K "is_word" iu)
    (sf : aH K "need_word" rL)
    (yH : aH K "end_of" yo)
    (Gj : aH K "led" pC)
    (iM : ∃ tk, j0 K "first_met" rM (.int 511 tk))
    (oZ : aH K "first_words" oO)
    (Gk : aH K "way" pD)
    (Bg : aH K "parts" iX)
    (lN : aH K "hangs_together" cH)
    (rp : aH K "need_whole" dY)
    (EK : aH K "beat" mI)
    (rq : aH K "same_roads" dZ)
    (nQ : aH K "arrangements" nB)
    (uD : aH K "signings" fI)
    (sh : aH K "number_of" fX)
    (wU : aH K "signing" iw)
    (wV : aH K "swapped" wy)
    (si : aH K "exchanged" fY)
    (mV : aH K "row_exchanges" mJ)
    (sj : aH K "exchanges" fZ)
    (uE : aH K "all_maps" gC)
    (o3 : aH K "road_counts" oP)
    (nR : aH K "without_last" nC)
    (yI : aH K "shrunk" yp)
    (wW : aH K "weights" ix)
    (yJ : aH K "is_set" yq)
    (uF : aH K "need_set" ua)
    (Bh : aH K "image" kr)
    (yK : aH K "map_of" fP)
    (EL : aH K "left" mK)
    (o4 : aH K "comes_round" eV)
    (uG : aH K "_law_bag" gD)
    (sk : aH K "_law_take" cX)
    (rA : aH K "_law_order" fJ)
    (uH : aH K "_law_net" dy)
    (o5 : aH K "_law_spoilt" dG)
    (o6 : aH K "_law_answer" eW)
    (Gm : aH K "law" ub)
    (Gp : PySem.W.nsIn K mainGlobals "len" = some none)
    (Bi : PySem.W.nsIn K mainGlobals "range" = some none)
    (Gq : PySem.W.nsIn K mainGlobals "min" = some none)
    (Gr : PySem.W.nsIn K mainGlobals "max" = some none)
    (Gs : PySem.W.nsIn K mainGlobals "abs" = some none)
    (ER : PySem.W.nsIn K mainGlobals "list" = some none)
    (Bj : PySem.W.nsIn K mainGlobals "tuple" = some none)
    (Gu : PySem.W.nsIn K mainGlobals "int" = some none)
    (Gv : PySem.W.nsIn K mainGlobals "str" = some none)
    (EV : PySem.W.nsIn K mainGlobals "bool" = some none)
    (rB : PySem.W.nsIn K mainGlobals "isinstance" = some none)
    (Gw : PySem.W.nsIn K mainGlobals "all" = some none)
    (Gx : PySem.W.nsIn K mainGlobals "set" = some none)
    (yL : PySem.W.nsIn K mainGlobals "sorted" = some none)
    (Gy : PySem.W.nsIn K mainGlobals "zip" = some none)
    (sm : PySem.W.nsIn K mainGlobals "enumerate" = some none)
    (GA : PySem.W.nsIn K mainGlobals "sum" = some none)
    (uI : PySem.W.nsIn K mainGlobals "reversed" = some none)
    (yM : PySem.W.nsIn K mainGlobals "divmod" = some none)
    (GB : PySem.W.nsIn K mainGlobals "any" = some none)
    (rC : PySem.W.nsIn K mainGlobals "ValueError" = some none)
    (gu : ∃ tk, PySem.W.nsIn K mainGlobals "MOST_PLACES" = some (some (.int 9 tk)))
    : ∃ fd : FuncData, (∀ (s : Shared) (v : Value), BindsTo s fd ⟨[v], []⟩ [("_law_script", v)]) ∧ ∀ base : Heap, K.In base → base.Ns mainGlobals mg → (∃ bm ob, BMod base mainGlobals mg bm ob) → (∀ c p, PySem.W.CodeHd h c p → PySem.W.CodeHd base c p) → FnOk l.prog w K mg base b9 13 fa fd ["_law_script"] (spLaw K ⟨tabs, lts.zip []⟩) := by
  obtain ⟨GC, Fb, bu⟩ := uz.df X G ["thing"] fun _ _ _ _ _ _ us hl => match us, hl with | [_], _ => rfl
  obtain ⟨yN, wZ, aM⟩ := lL.df X G ["thing", "many"] fun _ _ _ _ _ _ us hl => match us, hl with | [_, _], _ => rfl
  obtain ⟨yO, w5, yP⟩ := lM.df X G ["one", "other"] fun _ _ _ _ _ _ us hl => match us, hl with | [_, _], _ => rfl
  obtain ⟨Jy, HM, fh⟩ := yF.df X G ["thing", "many", "width"] fun _ _ _ _ _ _ us hl => match us, hl with | [_, _, _], _ => rfl
  obtain ⟨Jz, HN, fi⟩ := yG.df X G ["thing"] fun _ _ _ _ _ _ us hl => match us, hl with | [_], _ => rfl
  obtain ⟨GD, Fc, af⟩ := uA.df X G ["thing"] fun _ _ _ _ _ _ us hl => match us, hl with | [_], _ => rfl
  obtain ⟨dA, iG, bO⟩ := uB.df X G ["net"] fun _ _ _ _ _ _ us hl => match us, hl with | [_], _ => rfl
  obtain ⟨EW, Bv, EX⟩ := rk.df X G ["net"] fun _ _ _ _ _ _ us hl => match us, hl with | [_], _ => rfl
  obtain ⟨GF, Fd, GH⟩ := uC.df X G ["net", "thing"] fun _ _ _ _ _ _ us hl => match us, hl with | [_, _], _ => rfl
  obtain ⟨EY, Bw, EZ⟩ := rn.df X G ["net", "thing"] fun _ _ _ _ _ _ us hl => match us, hl with | [_, _], _ => rfl
  obtain ⟨HP, GI, HQ⟩ := wQ.df X G ["net", "thing"] fun _ _ _ _ _ _ us hl => match us, hl with | [_, _], _ => rfl
  obtain ⟨Fe, E1, Ff⟩ := se.df X G ["net", "thing"] fun _ _ _ _ _ _ us hl => match us, hl with | [_, _], _ => rfl
  obtain ⟨d9, ju, fu⟩ := wR.df X G ["net", "thing"] fun _ _ _ _ _ _ us hl => match us, hl with | [_, _], _ => rfl
  obtain ⟨Fg, E3, Fh⟩ := sf.df X G ["net", "thing"] fun _ _ _ _ _ _ us hl => match us, hl with | [_, _], _ => rfl
  obtain ⟨JA, HR, JB⟩ := yH.df X G ["net", "place", "word"] fun _ _ _ _ _ _ us hl => match us, hl with | [_, _, _], _ => rfl
  obtain ⟨jr, ra, ku⟩ := Gj.df X G ["net", "place", "word"] fun _ _ _ _ _ _ us hl => match us, hl with | [_, _, _], _ => rfl
  obtain ⟨E4, iM⟩ := iM
  obtain ⟨Fi, E5, Fj⟩ := iM.df X G ["start", "width", "step", "most"] (fun _ _ _ _ _ _ _ us hl => match us, hl with | [_, _, _], _ => ⟨_, rfl, rfl⟩) fun _ _ _ _ _ _ _ us hl => match us, hl with | [_, _, _, _], _ => ⟨_, rfl, rfl⟩
  obtain ⟨By, Bk, BA⟩ := oZ.df X G ["net", "start"] fun _ _ _ _ _ _ us hl => match us, hl with | [_, _], _ => rfl
  obtain ⟨js, rg, ky⟩ := Gk.df X G ["net", "start", "goal"] fun _ _ _ _ _ _ us hl => match us, hl with | [_, _, _], _ => rfl
  obtain ⟨fT, lC, di⟩ := Bg.df X G ["net"] fun _ _ _ _ _ _ us hl => match us, hl with | [_], _ => rfl
  obtain ⟨bF, eO, aX⟩ := lN.df X G ["net"] fun _ _ _ _ _ _ us hl => match us, hl with | [_], _ => rfl
  obtain ⟨E6, BC, bq⟩ := rp.df X G ["net"] fun _ _ _ _ _ _ us hl => match us, hl with | [_], _ => rfl
  obtain ⟨hU, nI, i6⟩ := EK.df X G ["net"] fun _ _ _ _ _ _ us hl => match us, hl with | [_], _ => rfl
  obtain ⟨cK, gq, a7⟩ := rq.df X G ["one", "other"] fun _ _ _ _ _ _ us hl => match us, hl with | [_, _], _ => rfl
  obtain ⟨Bm, zX, Bn⟩ := nQ.df X G ["row"] fun _ _ _ _ _ _ us hl => match us, hl with | [_], _ => rfl
  obtain ⟨dB, iH, bP⟩ := uD.df X G ["net"] fun _ _ _ _ _ _ us hl => match us, hl with | [_], _ => rfl
  obtain ⟨c6, hZ, dH⟩ := sh.df X G ["net"] fun _ _ _ _ _ _ us hl => match us, hl with | [_], _ => rfl
  obtain ⟨ee, jv, fv⟩ := wU.df X G ["net", "number"] fun _ _ _ _ _ _ us hl => match us, hl with | [_, _], _ => rfl
  obtain ⟨HS, GJ, HU⟩ := wV.df X G ["row", "one", "other"] fun _ _ _ _ _ _ us hl => match us, hl with | [_, _, _], _ => rfl
  obtain ⟨iE, h8, dI⟩ := si.df X G ["net", "place", "one", "other"] fun _ _ _ _ _ _ us hl => match us, hl with | [_, _, _, _], _ => rfl
  obtain ⟨zY, yQ, zZ⟩ := mV.df X G ["place", "row", "goal"] fun _ _ _ _ _ _ us hl => match us, hl with | [_, _, _], _ => rfl
  obtain ⟨iF, ia, b5⟩ := sj.df X G ["one", "other"] fun _ _ _ _ _ _ us hl => match us, hl with | [_, _], _ => rfl
  obtain ⟨dC, iI, eA⟩ := uE.df X G ["net"] fun _ _ _ _ _ _ us hl => match us, hl with | [_], _ => rfl
  obtain ⟨BD, Bo, BE⟩ := o3.df X G ["net"] fun _ _ _ _ _ _ us hl => match us, hl with | [_], _ => rfl
  obtain ⟨Bp, z5, Bq⟩ := nR.df X G ["counts"] fun _ _ _ _ _ _ us hl => match us, hl with | [_], _ => rfl
  obtain ⟨JC, HV, JD⟩ := yI.df X G ["numbers"] fun _ _ _ _ _ _ us hl => match us, hl with | [_], _ => rfl
  obtain ⟨d8, jt, ft⟩ := wW.df X G ["net"] fun _ _ _ _ _ _ us hl => match us, hl with | [_], _ => rfl
  obtain ⟨JE, HW, JF⟩ := yJ.df X G ["net", "thing"] fun _ _ _ _ _ _ us hl => match us, hl with | [_, _], _ => rfl
  obtain ⟨GK, Fl, GL⟩ := uF.df X G ["net", "thing"] fun _ _ _ _ _ _ us hl => match us, hl with | [_, _], _ => rfl
  obtain ⟨fU, lD, gK⟩ := Bh.df X G ["net", "places", "word"] fun _ _ _ _ _ _ us hl => match us, hl with | [_, _, _], _ => rfl
  obtain ⟨fj, j7, bz⟩ := yK.df X G ["net", "word"] fun _ _ _ _ _ _ us hl => match us, hl with | [_, _], _ => rfl
  obtain ⟨hV, nJ, i7⟩ := EL.df X G ["net", "word"] fun _ _ _ _ _ _ us hl => match us, hl with | [_, _], _ => rfl
  obtain ⟨cx, fV, cM⟩ := o4.df X G ["net", "word"] fun _ _ _ _ _ _ us hl => match us, hl with | [_, _], _ => rfl
  obtain ⟨GN, Fm, eB⟩ := uG.df X G ["_law_script", "_law_at"] fun _ _ _ _ _ _ us hl => match us, hl with | [_, _], _ => rfl
  obtain ⟨Fn, E7, ah⟩ := sk.df X G ["_law_bag_here", "_law_many"] fun _ _ _ _ _ _ us hl => match us, hl with | [_, _], _ => rfl
  obtain ⟨E8, BF, dh⟩ := rA.df X G ["_law_bag_here", "_law_many"] fun _ _ _ _ _ _ us hl => match us, hl with | [_, _], _ => rfl
  obtain ⟨GO, Fo, eC⟩ := uH.df X G ["_law_bag_here", "_law_most"] fun _ _ _ _ _ _ us hl => match us, hl with | [_, _], _ => rfl
  obtain ⟨BG, Br, cO⟩ := o5.df X G ["_law_bag_here", "_law_net_here"] fun _ _ _ _ _ _ us hl => match us, hl with | [_, _], _ => rfl
  obtain ⟨BH, Bs, cP⟩ := o6.df X G ["_law_what", "_law_net_here", "_law_good", "_law_odd"] fun _ _ _ _ _ _ us hl => match us, hl with | [_, _, _, _], _ => rfl
  obtain ⟨LL, E9, uJ⟩ := Gm.df X G ["_law_script"] fun _ _ _ _ _ _ us hl => match us, hl with | [_], _ => rfl
  have iL := PySem.W.mg_of X G sd
  have gI := PySem.W.mg_of X G Bd
  have kf := PySem.W.mg_of X G wM
  have lJ := PySem.W.mg_of X G yD
  have lK := PySem.W.mg_of X G yE
  have kg := PySem.W.mg_of X G wN
  have jy := PySem.W.mg_of X G uy
  have nO := PySem.W.mg_of X G Be
  have nP := PySem.W.mg_of X G Bf
  have kh := PySem.W.mg_of X G wO
  have X_ := AG eb
  have bw : C_NoNet ∈ [C_NoNet, C_NoPlace, C_NoSign, C_NoWord, C_NoWhole, C_NoNumber, C_NoKin, C_NoSet, C_TooMany] := by simp
  have kb : C_NoPlace ∈ [C_NoNet, C_NoPlace, C_NoSign, C_NoWord, C_NoWhole, C_NoNumber, C_NoKin, C_NoSet, C_TooMany] := by simp
  have lF : C_NoSign ∈ [C_NoNet, C_NoPlace, C_NoSign, C_NoWord, C_NoWhole, C_NoNumber, C_NoKin, C_NoSet, C_TooMany] := by simp
  have lH : C_NoWord ∈ [C_NoNet, C_NoPlace, C_NoSign, C_NoWord, C_NoWhole, C_NoNumber, C_NoKin, C_NoSet, C_TooMany] := by simp
  have kc : C_NoWhole ∈ [C_NoNet, C_NoPlace, C_NoSign, C_NoWord, C_NoWhole, C_NoNumber, C_NoKin, C_NoSet, C_TooMany] := by simp
  have jx : C_NoNumber ∈ [C_NoNet, C_NoPlace, C_NoSign, C_NoWord, C_NoWhole, C_NoNumber, C_NoKin, C_NoSet, C_TooMany] := by simp
  have nM : C_NoKin ∈ [C_NoNet, C_NoPlace, C_NoSign, C_NoWord, C_NoWhole, C_NoNumber, C_NoKin, C_NoSet, C_TooMany] := by simp
  have nN : C_NoSet ∈ [C_NoNet, C_NoPlace, C_NoSign, C_NoWord, C_NoWhole, C_NoNumber, C_NoKin, C_NoSet, C_TooMany] := by simp
  have ke : C_TooMany ∈ [C_NoNet, C_NoPlace, C_NoSign, C_NoWord, C_NoWhole, C_NoNumber, C_NoKin, C_NoSet, C_TooMany] := by simp
  have e := Lx.symm.trans uJ.mg
  cases e
  have bl : Bl mg := ⟨PySem.W.mg_none_of X G Gp, PySem.W.mg_none_of X G Bi, PySem.W.mg_none_of X G Gq, PySem.W.mg_none_of X G Gr, PySem.W.mg_none_of X G Gs, PySem.W.mg_none_of X G ER, PySem.W.mg_none_of X G Bj, PySem.W.mg_none_of X G Gu, PySem.W.mg_none_of X G Gv, PySem.W.mg_none_of X G EV, PySem.W.mg_none_of X G rB, PySem.W.mg_none_of X G Gw, PySem.W.mg_none_of X G Gx, PySem.W.mg_none_of X G yL, PySem.W.mg_none_of X G Gy, PySem.W.mg_none_of X G sm, PySem.W.mg_none_of X G GA, PySem.W.mg_none_of X G uI, PySem.W.mg_none_of X G yM, PySem.W.mg_none_of X G GB, PySem.W.mg_none_of X G rC⟩
  obtain ⟨Bt, gu⟩ := gu
  have fR := PySem.W.mg_of X G gu
  obtain ⟨bE, HX, rfl, yR, T⟩ := kR T
  obtain ⟨cw, HY, rfl, yS, T⟩ := kR T
  cases T
  cases U
  refine ⟨E9, fun s v => uJ.bind1 s v (by intros; rfl), fun base _ _ ig tr => ?_⟩
  obtain ⟨jm, fQ⟩ := vA fh X yR tr
  obtain ⟨qQ, jn⟩ := vA fi X yS tr
  have wX : bE ∈ (⟨[bE, cw], []⟩ : eG) := by show _ ∈ [bE, cw]; simp
  have wY : cw ∈ (⟨[bE, cw], []⟩ : eG) := by show _ ∈ [bE, cw]; simp
  have lB := wF (P := l.prog) (w := w) (tb := (⟨[bE, cw], []⟩ : eG)) fi jn wY fh fQ wX ig aM bu bl fR
  have ay := rR af fi lB X_ bw gI
  have eu := rT bO af ay bl
  have j9 := ui fu bO eu bl
  have gJ := yy di af ay bl
  have bV := kI aX di gJ bl
  have dj := oR bq aX bV bl
  have rh := A7 i6 bq dj bl
  have j8 := uk ft bq dj bl
  have ez := rW bP af ay bl
  have iJ := qS dH af ay bl
  have jw := rY eA af ay bl
  have dz := wI bz af ay bl
  have rj := A9 i7 bz dz bl
  have gr := nF cM bz dz bl
  have ka := uo fv aM bu bP ez bl
  have cJ := oU a7 af ay bl
  have f6 := qU b5 a7 cJ bl
  have uq := EG ku af ay bl
  have ur := EI ky af ay bl
  have nK := yA gK af ay bl
  have iK := qW dI af ay bl
  have mW := Em (tb := (⟨[bE, cw], []⟩ : eG)) (rN (P := l.prog) (w := w) (base := base) ah)
  have GP := Gh (tb := (⟨[bE, cw], []⟩ : eG)) (ud (P := l.prog) (w := w) (base := base) eB bl)
  have Bu := qM dh ah mW bl
  have GQ := uf eC ah mW dh Bu bl
  have yT := oV cO ah mW bl
  have yU := oW cP bO eu di gJ aX bV i6 rh ft j8 bP ez dH iJ eA jw fu j9 i7 rj bz dz cM gr fv ka a7 cJ ku uq ky ur gK nK dI iK b5 f6 X_ bw kb lF lH kc jx nM nN ke (by simpa using Ly) iL gI kf lJ lK kg jy nO nP kh bl
  exact D8 (EJ uJ eB GP eC GQ ah mW cO yT cP yU bl)
theorem walk {l : PySem.W.OpenLaw} {q : Program} {loose : List Str} {XP : (Str → Option Value) → Heap → Prop} {YP : World → Heap → Prop} {d : DefRec} {K : Params → PySem.W.Frag} (hn : l.most = some 63) (vo : d.params.defaults = [])
    (wk : ∀ w : World, PySem.W.kb_classed (K w.params) = true) (zM : ∀ y ∈ ((["is_row", "is_net"] : List Str) ++ ([] : List Str)), ∃ r ∈ recsOf q, r.name = y) (Ef : ∀ w : World, nz (K w.params) ["is_row", "is_net"] [] = true) (hY : ∀ (w : World) (h : Heap), YP w h → (K w.params).In h)
    (F : ∀ (w : World) (mg : Str → Option Value) (fa : Addr) (h : Heap) (tabs lts : List Addr), (K w.params).In h → h.Ns mainGlobals mg → mg d.name = some (.ref fa) →
      Paired (TabOf mg h) ["is_row", "is_net"] tabs → Paired (TabOf mg h) [] lts →
      ∃ fd : FuncData, (∀ (s : Shared) (u : Value), BindsTo s fd ⟨[u], []⟩ [("_law_script", u)]) ∧
        ∀ base : Heap, (K w.params).In base → base.Ns mainGlobals mg → (∃ bm ob, BMod base mainGlobals mg bm ob) → (∀ c p, PySem.W.CodeHd h c p → PySem.W.CodeHd base c p) → FnOk l.prog w (K w.params) mg base b9 13 fa fd ["_law_script"] (spLaw (K w.params) ⟨tabs, lts.zip []⟩)) :
    PySem.W.WalkO q loose XP YP l.row.toRowW d [] (fun f vs => PySem.call f vs) :=
  L2.yk (n := 63) (k := 13) (x := "_law_script") (CX := b9) (sp := fun K tabs lts => spLaw K ⟨tabs, lts.zip []⟩) hn (by decide) vo ⟨rfl, by decide, by decide⟩ wk zM Ef hY F (fun _ _ _ _ a ns hl hn hT hL hS => yl hl hn hT hL hS) fun _ _ _ _ z => z
end My
open PySem PySem.W PyProof.Rows L2
set_option maxRecDepth 100000 in
set_option maxHeartbeats 0 in
theorem PySem.Challenge.cw_roadcall_k06_first_of_all_no_net_holds : PySem.Challenge.rw_roadcall_k06_first_of_all_no_net.Holds := by
  w_on; o_law
  refine My.z6 (q := My.kq) (loose := My.kL) (H := My.kH) My.left (by rfl) (by rfl) (by rfl) (by rfl) (by first | assumption | decide +kernel) (by decide +kernel) ⟨rfl, rfl, rfl, rfl, rfl, by decide +kernel⟩ ?hw ?hc
  (case hw => w_witness2)
  refine My.walk (l := PySem.Challenge.rw_roadcall_k06_first_of_all_no_net) rfl rfl (fun w => by kernel_rfl) (recs_of (by decide +kernel)) (fun w => by kernel_rfl) (fun w h Y => Y) ?F
  intro w mg fa h tabs lts KX G vp T U
  exact My.all_mk (C_RoadError := 24) (C_NoNet := 37) (C_NoPlace := 49) (C_NoSign := 61) (C_NoWord := 73) (C_NoWhole := 85) (C_NoNumber := 97) (C_NoKin := 109) (C_NoSet := 121) (C_TooMany := 133) KX G vp T U
    (by kernel_rfl)
    (by kernel_rfl)
    (by kernel_rfl)
    (by kernel_rfl)
    (by kernel_rfl)
    (by kernel_rfl)
    (by kernel_rfl)
    (by kernel_rfl)
    (by kernel_rfl)
    (by kernel_rfl)
    (by kernel_rfl)
    (by decide)
    (L2.av (f := 142) (oc := .type "function") (od := none) (sl := #[]) (kV := .none) (dc := .none) (pm := My.vS "roadcall.whole" 351) (an := none) (cd := .ref 141) (ct := .none) (by kernel_rfl) (by kernel_rfl) (by kernel_rfl) (by kernel_rfl))
    (L2.av (f := 149) (oc := .type "function") (od := none) (sl := #[]) (kV := .none) (dc := .none) (pm := My.vS "roadcall.whole" 351) (an := none) (cd := .ref 148) (ct := .none) (by kernel_rfl) (by kernel_rfl) (by kernel_rfl) (by kernel_rfl))
    (L2.av (f := 156) (oc := .type "function") (od := none) (sl := #[]) (kV := .none) (dc := .none) (pm := My.vS "roadcall.whole" 351) (an := none) (cd := .ref 155) (ct := .none) (by kernel_rfl) (by kernel_rfl) (by kernel_rfl) (by kernel_rfl))
    (L2.av (f := 163) (oc := .type "function") (od := none) (sl := #[]) (kV := .none) (dc := .none) (pm := My.vS "roadcall.nets" 376) (an := none) (cd := .ref 162) (ct := .none) (by kernel_rfl) (by kernel_rfl) (by kernel_rfl) (by kernel_rfl))
    (L2.av (f := 170) (oc := .type "function") (od := none) (sl := #[]) (kV := .none) (dc := .none) (pm := My.vS "roadcall.nets" 376) (an := none) (cd := .ref 169) (ct := .none) (by kernel_rfl) (by kernel_rfl) (by kernel_rfl) (by kernel_rfl))
    (L2.av (f := 177) (oc := .type "function") (od := none) (sl := #[]) (kV := .none) (dc := .none) (pm := My.vS "roadcall.nets" 376) (an := none) (cd := .ref 176) (ct := .none) (by kernel_rfl) (by kernel_rfl) (by kernel_rfl) (by kernel_rfl))
    (L2.av (f := 184) (oc := .type "function") (od := none) (sl := #[]) (kV := .none) (dc := .none) (pm := My.vS "roadcall.nets" 376) (an := none) (cd := .ref 183) (ct := .none) (by kernel_rfl) (by kernel_rfl) (by kernel_rfl) (by kernel_rfl))
    (L2.av (f := 191) (oc := .type "function") (od := none) (sl := #[]) (kV := .none) (dc := .none) (pm := My.vS "roadcall.nets" 376) (an := none) (cd := .ref 190) (ct := .none) (by kernel_rfl) (by kernel_rfl) (by kernel_rfl) (by kernel_rfl))
    (L2.av (f := 198) (oc := .type "function") (od := none) (sl := #[]) (kV := .none) (dc := .none) (pm := My.vS "roadcall.nets" 376) (an := none) (cd := .ref 197) (ct := .none) (by kernel_rfl) (by kernel_rfl) (by kernel_rfl) (by kernel_rfl))
    (L2.av (f := 205) (oc := .type "function") (od := none) (sl := #[]) (kV := .none) (dc := .none) (pm := My.vS "roadcall.nets" 376) (an := none) (cd := .ref 204) (ct := .none) (by kernel_rfl) (by kernel_rfl) (by kernel_rfl) (by kernel_rfl))
    (L2.av (f := 212) (oc := .type "function") (od := none) (sl := #[]) (kV := .none) (dc := .none) (pm := My.vS "roadcall.nets" 376) (an := none) (cd := .ref 211) (ct := .none) (by kernel_rfl) (by kernel_rfl) (by kernel_rfl) (by kernel_rfl))
    (L2.av (f := 219) (oc := .type "function") (od := none) (sl := #[]) (kV := .none) (dc := .none) (pm := My.vS "roadcall.nets" 376) (an := none) (cd := .ref 218) (ct := .none) (by kernel_rfl) (by kernel_rfl) (by kernel_rfl) (by kernel_rfl))
    (L2.av (f := 226) (oc := .type "function") (od := none) (sl := #[]) (kV := .none) (dc := .none) (pm := My.vS "roadcall.nets" 376) (an := none) (cd := .ref 225) (ct := .none) (by kernel_rfl) (by kernel_rfl) (by kernel_rfl) (by kernel_rfl))
    (L2.av (f := 233) (oc := .type "function") (od := none) (sl := #[]) (kV := .none) (dc := .none) (pm := My.vS "roadcall.nets" 376) (an := none) (cd := .ref 232) (ct := .none) (by kernel_rfl) (by kernel_rfl) (by kernel_rfl) (by kernel_rfl))
    (L2.av (f := 240) (oc := .type "function") (od := none) (sl := #[]) (kV := .none) (dc := .none) (pm := My.vS "roadcall.ways" 473) (an := none) (cd := .ref 239) (ct := .none) (by kernel_rfl) (by kernel_rfl) (by kernel_rfl) (by kernel_rfl))
    (L2.av (f := 247) (oc := .type "function") (od := none) (sl := #[]) (kV := .none) (dc := .none) (pm := My.vS "roadcall.ways" 473) (an := none) (cd := .ref 246) (ct := .none) (by kernel_rfl) (by kernel_rfl) (by kernel_rfl) (by kernel_rfl))
    (L2.wt (f := 255) (oc := .type "function") (od := none) (sl := #[]) (T := 248) (oT := ⟨.type "tuple", none, .seq #[.int 511 475] 0, #[]⟩) (kV := .none) (dc := .none) (pm := My.vS "roadcall.ways" 473) (an := none) (cd := .ref 254) (ct := .none) (by kernel_rfl) (by kernel_rfl) (by kernel_rfl) (by kernel_rfl) (by kernel_rfl) rfl)
    (L2.av (f := 262) (oc := .type "function") (od := none) (sl := #[]) (kV := .none) (dc := .none) (pm := My.vS "roadcall.ways" 473) (an := none) (cd := .ref 261) (ct := .none) (by kernel_rfl) (by kernel_rfl) (by kernel_rfl) (by kernel_rfl))
    (L2.av (f := 269) (oc := .type "function") (od := none) (sl := #[]) (kV := .none) (dc := .none) (pm := My.vS "roadcall.ways" 473) (an := none) (cd := .ref 268) (ct := .none) (by kernel_rfl) (by kernel_rfl) (by kernel_rfl) (by kernel_rfl))
    (L2.av (f := 274) (oc := .type "function") (od := none) (sl := #[]) (kV := .none) (dc := .none) (pm := My.vS "roadcall.ways" 473) (an := none) (cd := .ref 273) (ct := .none) (by kernel_rfl) (by kernel_rfl) (by kernel_rfl) (by kernel_rfl))
    (L2.av (f := 281) (oc := .type "function") (od := none) (sl := #[]) (kV := .none) (dc := .none) (pm := My.vS "roadcall.ways" 473) (an := none) (cd := .ref 280) (ct := .none) (by kernel_rfl) (by kernel_rfl) (by kernel_rfl) (by kernel_rfl))
    (L2.av (f := 288) (oc := .type "function") (od := none) (sl := #[]) (kV := .none) (dc := .none) (pm := My.vS "roadcall.ways" 473) (an := none) (cd := .ref 287) (ct := .none) (by kernel_rfl) (by kernel_rfl) (by kernel_rfl) (by kernel_rfl))
    (L2.av (f := 293) (oc := .type "function") (od := none) (sl := #[]) (kV := .none) (dc := .none) (pm := My.vS "roadcall.beats" 549) (an := none) (cd := .ref 292) (ct := .none) (by kernel_rfl) (by kernel_rfl) (by kernel_rfl) (by kernel_rfl))
    (L2.av (f := 298) (oc := .type "function") (od := none) (sl := #[]) (kV := .none) (dc := .none) (pm := My.vS "roadcall.signings" 557) (an := none) (cd := .ref 297) (ct := .none) (by kernel_rfl) (by kernel_rfl) (by kernel_rfl) (by kernel_rfl))
    (L2.av (f := 305) (oc := .type "function") (od := none) (sl := #[]) (kV := .none) (dc := .none) (pm := My.vS "roadcall.signings" 557) (an := none) (cd := .ref 304) (ct := .none) (by kernel_rfl) (by kernel_rfl) (by kernel_rfl) (by kernel_rfl))
    (L2.av (f := 312) (oc := .type "function") (od := none) (sl := #[]) (kV := .none) (dc := .none) (pm := My.vS "roadcall.signings" 557) (an := none) (cd := .ref 311) (ct := .none) (by kernel_rfl) (by kernel_rfl) (by kernel_rfl) (by kernel_rfl))
    (L2.av (f := 319) (oc := .type "function") (od := none) (sl := #[]) (kV := .none) (dc := .none) (pm := My.vS "roadcall.signings" 557) (an := none) (cd := .ref 318) (ct := .none) (by kernel_rfl) (by kernel_rfl) (by kernel_rfl) (by kernel_rfl))
    (L2.av (f := 326) (oc := .type "function") (od := none) (sl := #[]) (kV := .none) (dc := .none) (pm := My.vS "roadcall.signings" 557) (an := none) (cd := .ref 325) (ct := .none) (by kernel_rfl) (by kernel_rfl) (by kernel_rfl) (by kernel_rfl))
    (L2.av (f := 333) (oc := .type "function") (od := none) (sl := #[]) (kV := .none) (dc := .none) (pm := My.vS "roadcall.exchanges" 607) (an := none) (cd := .ref 332) (ct := .none) (by kernel_rfl) (by kernel_rfl) (by kernel_rfl) (by kernel_rfl))
    (L2.av (f := 340) (oc := .type "function") (od := none) (sl := #[]) (kV := .none) (dc := .none) (pm := My.vS "roadcall.exchanges" 607) (an := none) (cd := .ref 339) (ct := .none) (by kernel_rfl) (by kernel_rfl) (by kernel_rfl) (by kernel_rfl))
    (L2.av (f := 345) (oc := .type "function") (od := none) (sl := #[]) (kV := .none) (dc := .none) (pm := My.vS "roadcall.exchanges" 607) (an := none) (cd := .ref 344) (ct := .none) (by kernel_rfl) (by kernel_rfl) (by kernel_rfl) (by kernel_rfl))
    (L2.av (f := 352) (oc := .type "function") (od := none) (sl := #[]) (kV := .none) (dc := .none) (pm := My.vS "roadcall.exchanges" 607) (an := none) (cd := .ref 351) (ct := .none) (by kernel_rfl) (by kernel_rfl) (by kernel_rfl) (by kernel_rfl))
    (L2.av (f := 357) (oc := .type "function") (od := none) (sl := #[]) (kV := .none) (dc := .none) (pm := My.vS "roadcall.maps" 647) (an := none) (cd := .ref 356) (ct := .none) (by kernel_rfl) (by kernel_rfl) (by kernel_rfl) (by kernel_rfl))
    (L2.av (f := 362) (oc := .type "function") (od := none) (sl := #[]) (kV := .none) (dc := .none) (pm := My.vS "roadcall.weights" 657) (an := none) (cd := .ref 361) (ct := .none) (by kernel_rfl) (by kernel_rfl) (by kernel_rfl) (by kernel_rfl))
    (L2.av (f := 367) (oc := .type "function") (od := none) (sl := #[]) (kV := .none) (dc := .none) (pm := My.vS "roadcall.weights" 657) (an := none) (cd := .ref 366) (ct := .none) (by kernel_rfl) (by kernel_rfl) (by kernel_rfl) (by kernel_rfl))
    (L2.av (f := 372) (oc := .type "function") (od := none) (sl := #[]) (kV := .none) (dc := .none) (pm := My.vS "roadcall.weights" 657) (an := none) (cd := .ref 371) (ct := .none) (by kernel_rfl) (by kernel_rfl) (by kernel_rfl) (by kernel_rfl))
    (L2.av (f := 377) (oc := .type "function") (od := none) (sl := #[]) (kV := .none) (dc := .none) (pm := My.vS "roadcall.weights" 657) (an := none) (cd := .ref 376) (ct := .none) (by kernel_rfl) (by kernel_rfl) (by kernel_rfl) (by kernel_rfl))
    (L2.av (f := 384) (oc := .type "function") (od := none) (sl := #[]) (kV := .none) (dc := .none) (pm := My.vS "roadcall.words" 683) (an := none) (cd := .ref 383) (ct := .none) (by kernel_rfl) (by kernel_rfl) (by kernel_rfl) (by kernel_rfl))
    (L2.av (f := 391) (oc := .type "function") (od := none) (sl := #[]) (kV := .none) (dc := .none) (pm := My.vS "roadcall.words" 683) (an := none) (cd := .ref 390) (ct := .none) (by kernel_rfl) (by kernel_rfl) (by kernel_rfl) (by kernel_rfl))
    (L2.av (f := 396) (oc := .type "function") (od := none) (sl := #[]) (kV := .none) (dc := .none) (pm := My.vS "roadcall.words" 683) (an := none) (cd := .ref 395) (ct := .none) (by kernel_rfl) (by kernel_rfl) (by kernel_rfl) (by kernel_rfl))
    (L2.av (f := 403) (oc := .type "function") (od := none) (sl := #[]) (kV := .none) (dc := .none) (pm := My.vS "roadcall.words" 683) (an := none) (cd := .ref 402) (ct := .none) (by kernel_rfl) (by kernel_rfl) (by kernel_rfl) (by kernel_rfl))
    (L2.av (f := 410) (oc := .type "function") (od := none) (sl := #[]) (kV := .none) (dc := .none) (pm := My.vS "roadcall.words" 683) (an := none) (cd := .ref 409) (ct := .none) (by kernel_rfl) (by kernel_rfl) (by kernel_rfl) (by kernel_rfl))
    (L2.av (f := 417) (oc := .type "function") (od := none) (sl := #[]) (kV := .none) (dc := .none) (pm := My.vS "roadcall.words" 683) (an := none) (cd := .ref 416) (ct := .none) (by kernel_rfl) (by kernel_rfl) (by kernel_rfl) (by kernel_rfl))
    (L2.av (f := 424) (oc := .type "function") (od := none) (sl := #[]) (kV := .none) (dc := .none) (pm := My.vS "law_roadcall_k06_first_of_all_no_net" 737) (an := none) (cd := .ref 423) (ct := .none) (by kernel_rfl) (by kernel_rfl) (by kernel_rfl) (by kernel_rfl))
    (L2.av (f := 431) (oc := .type "function") (od := none) (sl := #[]) (kV := .none) (dc := .none) (pm := My.vS "law_roadcall_k06_first_of_all_no_net" 737) (an := none) (cd := .ref 430) (ct := .none) (by kernel_rfl) (by kernel_rfl) (by kernel_rfl) (by kernel_rfl))
    (L2.av (f := 438) (oc := .type "function") (od := none) (sl := #[]) (kV := .none) (dc := .none) (pm := My.vS "law_roadcall_k06_first_of_all_no_net" 737) (an := none) (cd := .ref 437) (ct := .none) (by kernel_rfl) (by kernel_rfl) (by kernel_rfl) (by kernel_rfl))
    (L2.av (f := 443) (oc := .type "function") (od := none) (sl := #[]) (kV := .none) (dc := .none) (pm := My.vS "law_roadcall_k06_first_of_all_no_net" 737) (an := none) (cd := .ref 442) (ct := .none) (by kernel_rfl) (by kernel_rfl) (by kernel_rfl) (by kernel_rfl))
    (L2.av (f := 448) (oc := .type "function") (od := none) (sl := #[]) (kV := .none) (dc := .none) (pm := My.vS "law_roadcall_k06_first_of_all_no_net" 737) (an := none) (cd := .ref 447) (ct := .none) (by kernel_rfl) (by kernel_rfl) (by kernel_rfl) (by kernel_rfl))
    (L2.av (f := 455) (oc := .type "function") (od := none) (sl := #[]) (kV := .none) (dc := .none) (pm := My.vS "law_roadcall_k06_first_of_all_no_net" 737) (an := none) (cd := .ref 454) (ct := .none) (by kernel_rfl) (by kernel_rfl) (by kernel_rfl) (by kernel_rfl))
    (L2.av (f := 462) (oc := .type "function") (od := none) (sl := #[]) (kV := .none) (dc := .none) (pm := My.vS "law_roadcall_k06_first_of_all_no_net" 737) (an := none) (cd := .ref 461) (ct := .none) (by kernel_rfl) (by kernel_rfl) (by kernel_rfl) (by kernel_rfl))
    (by kernel_rfl)
    (by kernel_rfl)
    (by kernel_rfl)
    (by kernel_rfl)
    (by kernel_rfl)
    (by kernel_rfl)
    (by kernel_rfl)
    (by kernel_rfl)
    (by kernel_rfl)
    (by kernel_rfl)
    (by kernel_rfl)
    (by kernel_rfl)
    (by kernel_rfl)
    (by kernel_rfl)
    (by kernel_rfl)
    (by kernel_rfl)
    (by kernel_rfl)
    (by kernel_rfl)
    (by kernel_rfl)
    (by kernel_rfl)
    (by kernel_rfl)
    ⟨380, by kernel_rfl⟩
