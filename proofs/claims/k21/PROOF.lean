import PyProof.Rows.All
import Wide.All
import OpenK.AllK
import Wide.FinOn
import Lean
import PySem.Challenge.RW_roadcall_k21_no_sets_and_no_words
import PyProof.EqAt
import PyProof.EqKinds
import PyProof.TupleCall
import PyProof.NeKinds
import PyProof.EnumMake
import PyProof.EnumFor
import PyProof.ZipIter
import PyProof.Rows.ZipGen
import KE.KLam
import PyProof.DictItems
import KE.KTurnsDict
import KE.KPairComp
import KE.KDictList
set_option linter.all false
set_option Elab.async false
set_option maxRecDepth 100000
namespace My
open PySem PyProof.Rows
noncomputable def kA (s : Stmt) : Arguments := match s with
  | .FunctionDef _ a _ _ _ _ _ _ _ _ => a
  | _ => { posonlyargs := [], args := [], vararg := none, kwonlyargs := [], kw_defaults := [], kwarg := none, defaults := [] }
noncomputable def kB (s : Stmt) : List Stmt := match s with
  | .FunctionDef _ _ b _ _ _ _ _ _ _ => b
  | _ => []
noncomputable def kS (s : Stmt) : Scope := match s with
  | .FunctionDef _ _ _ _ _ _ sc _ _ _ => sc
  | _ => { kind := .function, names := [], isGenerator := false, isCoroutine := false }
noncomputable def vS (x : String) (t : Nat) : Value := .str (Str.ofString x) t
noncomputable def kE (P : Params) (x : String) (t : Nat) (v : Value) : DictEntry := ⟨PyData.keyHash P (Str.ofString x), vS x t, v⟩
noncomputable def kF (i : Nat) (x : String) (d m : Value) (c : Nat) : Obj := let st := PySem.Challenge.pw_roadcall_k21_no_sets_and_no_words.main.body.getD i (.Pass ⟨0, 0, 0, 0⟩); ⟨.type "function", none, .func (PySem.W.fnOf (Str.ofString x) (Str.ofString x) (kA st) (kB st) (kS st) d .none .none m none (.ref c) .none), #[]⟩
noncomputable def kC (x : String) (t : Nat) (l n f : Int) (a : Nat) (b : Bool) (m : Int) (p : Nat) (u z : Value) (q : Nat) (e : Int) (t2 : Nat) : Obj := ⟨.type "code", none, .fields #[vS x t, vS x (t + 1), vS "/claim/cut.py" (t + 2), .int l 0, .int n 0, .int 0 0, .int 0 0, .int f 0, .ref a, .bool b, .int m 0, .ref p, .none, u, z, .ref q, .int e 0, .int l 0, vS "/claim/cut.py" t2], #[]⟩
noncomputable def kK (P : Params) : PySem.W.Frag := [(2, ⟨.none, none, .dict [].toArray 0, #[]⟩),
  (3, ⟨.type "dict", none, .dict [kE P "__name__" 165 (vS "law_roadcall_k21_no_sets_and_no_words" 475), kE P "__doc__" 166 .none, kE P "__package__" 167 .none, kE P "__loader__" 168 (.builtin "__main__.__loader__#opaque"), kE P "__spec__" 169 .none, kE P "__annotations__" 170 (.ref 6), kE P "__builtins__" 171 (.ref 4), kE P "__file__" 173 (vS "/claim/cut.py" 172), kE P "__cached__" 174 .none, kE P "RoadError" 206 (.ref 24), kE P "NoNet" 222 (.ref 37), kE P "NoPlace" 238 (.ref 49), kE P "NoSign" 254 (.ref 61), kE P "NoWord" 270 (.ref 73), kE P "NoWhole" 286 (.ref 85), kE P "NoSet" 302 (.ref 97), kE P "TooMany" 318 (.ref 109), kE P "is_whole" 327 (.ref 118), kE P "is_whole_below" 335 (.ref 125), kE P "SIGNS" 339 (vS "abc" 338), kE P "MOST_PLACES" 341 (.int 9 340), kE P "MOST_SIGNS_OF_WORD" 343 (.int 2000 342), kE P "is_row" 353 (.ref 132), kE P "is_net" 362 (.ref 139), kE P "need_net" 369 (.ref 146), kE P "signs_of" 376 (.ref 153), kE P "all_places" 383 (.ref 160), kE P "is_place" 391 (.ref 167), kE P "is_word" 400 (.ref 174), kE P "need_word" 408 (.ref 181), kE P "end_of" 420 (.ref 188), kE P "is_set" 431 (.ref 195), kE P "need_set" 439 (.ref 202), kE P "image" 445 (.ref 207), kE P "map_of" 455 (.ref 214), kE P "left" 463 (.ref 221), kE P "comes_round" 474 (.ref 228), kE P "_law_bag" 487 (.ref 235), kE P "_law_take" 498 (.ref 242), kE P "_law_order" 509 (.ref 249), kE P "_law_net" 515 (.ref 254), kE P "_law_word" 526 (.ref 261), kE P "_law_places" 532 (.ref 266), kE P "_law_answer" 543 (.ref 273), kE P "_law_no_set" 554 (.ref 280), kE P "law" 560 (.ref 285)].toArray 46, #[]⟩),
  (23, ⟨.type "dict", none, .dict [kE P "__module__" 196 (vS "roadcall.errors" 187), kE P "__firstlineno__" 200 (.int 2 199), kE P "__static_attributes__" 201 (.ref 22), kE P "__weakref__" 203 (.ref 25), kE P "__doc__" 204 .none].toArray 3, #[]⟩),
  (24, ⟨.type "type", none, .cls { name := Str.ofString "RoadError", bases := [.type "ValueError"], mro := [.ref 24, .type "ValueError", .type "Exception", .type "BaseException", .type "object"], ns := 23, qualname := Str.ofString "RoadError", subclasses := [.ref 37, .ref 49, .ref 61, .ref 73, .ref 85, .ref 97, .ref 109] }, #[some (.ref 15), none, some (vS "RoadError" 189), some (vS "RoadError" 197), some (.builtin "ValueError.__new__"), some (.bool true)]⟩),
  (36, ⟨.type "dict", none, .dict [kE P "__module__" 214 (vS "roadcall.errors" 187), kE P "__firstlineno__" 218 (.int 4 217), kE P "__static_attributes__" 219 (.ref 35), kE P "__doc__" 220 .none].toArray 2, #[]⟩),
  (37, ⟨.type "type", none, .cls { name := Str.ofString "NoNet", bases := [.ref 24], mro := [.ref 37, .ref 24, .type "ValueError", .type "Exception", .type "BaseException", .type "object"], ns := 36, qualname := Str.ofString "NoNet", subclasses := [] }, #[some (.ref 28), none, some (vS "NoNet" 207), some (vS "NoNet" 215), some (.builtin "ValueError.__new__"), some (.bool true)]⟩),
  (48, ⟨.type "dict", none, .dict [kE P "__module__" 230 (vS "roadcall.errors" 187), kE P "__firstlineno__" 234 (.int 6 233), kE P "__static_attributes__" 235 (.ref 47), kE P "__doc__" 236 .none].toArray 2, #[]⟩),
  (49, ⟨.type "type", none, .cls { name := Str.ofString "NoPlace", bases := [.ref 24], mro := [.ref 49, .ref 24, .type "ValueError", .type "Exception", .type "BaseException", .type "object"], ns := 48, qualname := Str.ofString "NoPlace", subclasses := [] }, #[some (.ref 40), none, some (vS "NoPlace" 223), some (vS "NoPlace" 231), some (.builtin "ValueError.__new__"), some (.bool true)]⟩),
  (60, ⟨.type "dict", none, .dict [kE P "__module__" 246 (vS "roadcall.errors" 187), kE P "__firstlineno__" 250 (.int 8 249), kE P "__static_attributes__" 251 (.ref 59), kE P "__doc__" 252 .none].toArray 2, #[]⟩),
  (61, ⟨.type "type", none, .cls { name := Str.ofString "NoSign", bases := [.ref 24], mro := [.ref 61, .ref 24, .type "ValueError", .type "Exception", .type "BaseException", .type "object"], ns := 60, qualname := Str.ofString "NoSign", subclasses := [] }, #[some (.ref 52), none, some (vS "NoSign" 239), some (vS "NoSign" 247), some (.builtin "ValueError.__new__"), some (.bool true)]⟩),
  (72, ⟨.type "dict", none, .dict [kE P "__module__" 262 (vS "roadcall.errors" 187), kE P "__firstlineno__" 266 (.int 10 265), kE P "__static_attributes__" 267 (.ref 71), kE P "__doc__" 268 .none].toArray 2, #[]⟩),
  (73, ⟨.type "type", none, .cls { name := Str.ofString "NoWord", bases := [.ref 24], mro := [.ref 73, .ref 24, .type "ValueError", .type "Exception", .type "BaseException", .type "object"], ns := 72, qualname := Str.ofString "NoWord", subclasses := [] }, #[some (.ref 64), none, some (vS "NoWord" 255), some (vS "NoWord" 263), some (.builtin "ValueError.__new__"), some (.bool true)]⟩),
  (84, ⟨.type "dict", none, .dict [kE P "__module__" 278 (vS "roadcall.errors" 187), kE P "__firstlineno__" 282 (.int 12 281), kE P "__static_attributes__" 283 (.ref 83), kE P "__doc__" 284 .none].toArray 2, #[]⟩),
  (85, ⟨.type "type", none, .cls { name := Str.ofString "NoWhole", bases := [.ref 24], mro := [.ref 85, .ref 24, .type "ValueError", .type "Exception", .type "BaseException", .type "object"], ns := 84, qualname := Str.ofString "NoWhole", subclasses := [] }, #[some (.ref 76), none, some (vS "NoWhole" 271), some (vS "NoWhole" 279), some (.builtin "ValueError.__new__"), some (.bool true)]⟩),
  (96, ⟨.type "dict", none, .dict [kE P "__module__" 294 (vS "roadcall.errors" 187), kE P "__firstlineno__" 298 (.int 14 297), kE P "__static_attributes__" 299 (.ref 95), kE P "__doc__" 300 .none].toArray 2, #[]⟩),
  (97, ⟨.type "type", none, .cls { name := Str.ofString "NoSet", bases := [.ref 24], mro := [.ref 97, .ref 24, .type "ValueError", .type "Exception", .type "BaseException", .type "object"], ns := 96, qualname := Str.ofString "NoSet", subclasses := [] }, #[some (.ref 88), none, some (vS "NoSet" 287), some (vS "NoSet" 295), some (.builtin "ValueError.__new__"), some (.bool true)]⟩),
  (108, ⟨.type "dict", none, .dict [kE P "__module__" 310 (vS "roadcall.errors" 187), kE P "__firstlineno__" 314 (.int 16 313), kE P "__static_attributes__" 315 (.ref 107), kE P "__doc__" 316 .none].toArray 2, #[]⟩),
  (109, ⟨.type "type", none, .cls { name := Str.ofString "TooMany", bases := [.ref 24], mro := [.ref 109, .ref 24, .type "ValueError", .type "Exception", .type "BaseException", .type "object"], ns := 108, qualname := Str.ofString "TooMany", subclasses := [] }, #[some (.ref 100), none, some (vS "TooMany" 303), some (vS "TooMany" 311), some (.builtin "ValueError.__new__"), some (.bool true)]⟩),
  (117, kC "is_whole" 321 19 1 3 112 true 181 113 (.ref 114) (.ref 115) 116 325 326),
  (118, kF 10 "is_whole" .none (vS "roadcall.whole" 319) 117),
  (124, kC "is_whole_below" 328 21 2 3 119 true 181 120 (.ref 121) (.ref 122) 123 333 334),
  (125, kF 11 "is_whole_below" .none (vS "roadcall.whole" 319) 124),
  (131, kC "is_row" 344 27 3 3 126 true 181 127 (.ref 128) (.ref 129) 130 351 352),
  (132, kF 16 "is_row" .none (vS "roadcall.nets" 336) 131),
  (138, kC "is_net" 354 31 1 3 133 true 181 134 (.ref 135) (.ref 136) 137 360 361),
  (139, kF 17 "is_net" .none (vS "roadcall.nets" 336) 138),
  (145, kC "need_net" 363 39 1 3 140 true 181 141 (.ref 142) (.ref 143) 144 367 368),
  (146, kF 18 "need_net" .none (vS "roadcall.nets" 336) 145),
  (152, kC "signs_of" 370 42 1 3 147 true 181 148 (.ref 149) (.ref 150) 151 374 375),
  (153, kF 19 "signs_of" .none (vS "roadcall.nets" 336) 152),
  (159, kC "all_places" 377 45 1 3 154 true 181 155 (.ref 156) (.ref 157) 158 381 382),
  (160, kF 20 "all_places" .none (vS "roadcall.nets" 336) 159),
  (166, kC "is_place" 384 47 2 3 161 true 181 162 (.ref 163) (.ref 164) 165 389 390),
  (167, kF 21 "is_place" .none (vS "roadcall.nets" 336) 166),
  (173, kC "is_word" 392 49 2 3 168 true 181 169 (.ref 170) (.ref 171) 172 398 399),
  (174, kF 22 "is_word" .none (vS "roadcall.nets" 336) 173),
  (180, kC "need_word" 401 54 2 3 175 true 181 176 (.ref 177) (.ref 178) 179 406 407),
  (181, kF 23 "need_word" .none (vS "roadcall.nets" 336) 180),
  (187, kC "end_of" 411 58 3 3 182 true 181 183 (.ref 184) (.ref 185) 186 418 419),
  (188, kF 25 "end_of" .none (vS "roadcall.ways" 409) 187),
  (194, kC "is_set" 423 63 2 3 189 true 181 190 (.ref 191) (.ref 192) 193 429 430),
  (195, kF 27 "is_set" .none (vS "roadcall.words" 421) 194),
  (201, kC "need_set" 432 67 2 3 196 true 181 197 (.ref 198) (.ref 199) 200 437 438),
  (202, kF 28 "need_set" .none (vS "roadcall.words" 421) 201),
  (206, kC "image" 440 70 3 3 203 true 181 204 .none .none 205 443 444),
  (207, kF 29 "image" .none (vS "roadcall.words" 421) 206),
  (213, kC "map_of" 446 75 2 3 208 true 181 209 (.ref 210) (.ref 211) 212 453 454),
  (214, kF 30 "map_of" .none (vS "roadcall.words" 421) 213),
  (220, kC "left" 456 79 2 3 215 true 181 216 (.ref 217) (.ref 218) 219 461 462),
  (221, kF 31 "left" .none (vS "roadcall.words" 421) 220),
  (227, kC "comes_round" 464 81 2 3 222 true 181 223 (.ref 224) (.ref 225) 226 472 473),
  (228, kF 32 "comes_round" .none (vS "roadcall.words" 421) 227),
  (234, kC "_law_bag" 477 90 2 3 229 true 181 230 (.ref 231) (.ref 232) 233 485 486),
  (235, kF 34 "_law_bag" .none (vS "law_roadcall_k21_no_sets_and_no_words" 475) 234),
  (241, kC "_law_take" 488 100 2 3 236 true 181 237 (.ref 238) (.ref 239) 240 496 497),
  (242, kF 35 "_law_take" .none (vS "law_roadcall_k21_no_sets_and_no_words" 475) 241),
  (248, kC "_law_order" 499 112 2 3 243 true 181 244 (.ref 245) (.ref 246) 247 507 508),
  (249, kF 36 "_law_order" .none (vS "law_roadcall_k21_no_sets_and_no_words" 475) 248),
  (253, kC "_law_net" 510 118 2 3 250 true 181 251 .none .none 252 513 514),
  (254, kF 37 "_law_net" .none (vS "law_roadcall_k21_no_sets_and_no_words" 475) 253),
  (260, kC "_law_word" 516 140 3 3 255 true 181 256 (.ref 257) (.ref 258) 259 524 525),
  (261, kF 38 "_law_word" .none (vS "law_roadcall_k21_no_sets_and_no_words" 475) 260),
  (265, kC "_law_places" 527 145 2 3 262 true 181 263 .none .none 264 530 531),
  (266, kF 39 "_law_places" .none (vS "law_roadcall_k21_no_sets_and_no_words" 475) 265),
  (272, kC "_law_answer" 533 148 4 3 267 true 181 268 (.ref 269) (.ref 270) 271 541 542),
  (273, kF 40 "_law_answer" .none (vS "law_roadcall_k21_no_sets_and_no_words" 475) 272),
  (279, kC "_law_no_set" 544 165 3 3 274 true 181 275 (.ref 276) (.ref 277) 278 552 553),
  (280, kF 41 "_law_no_set" .none (vS "law_roadcall_k21_no_sets_and_no_words" 475) 279),
  (284, kC "law" 555 170 1 3 281 true 181 282 .none .none 283 558 559),
  (285, kF 42 "law" .none (vS "law_roadcall_k21_no_sets_and_no_words" 475) 284)]
noncomputable def Ny : List Addr := [2, 3, 23, 24, 36, 37, 48, 49, 60, 61, 72, 73, 84, 85, 96, 97, 108, 109, 117, 118, 124, 125, 131, 132, 138, 139, 145, 146, 152, 153, 159, 160, 166, 167, 173, 174, 180, 181, 187, 188, 194, 195, 201, 202, 206, 207, 213, 214, 220, 221, 227, 228, 234, 235, 241, 242, 248, 249, 253, 254, 260, 261, 265, 266, 272, 273, 279, 280, 284, 285]
noncomputable def kq : Program := PySem.W.view PySem.Challenge.pw_roadcall_k21_no_sets_and_no_words [1, 2, 3, 4, 5, 6, 7, 8, 10, 11, 13, 14, 15, 16, 17, 18, 19, 20, 21, 22, 23, 25, 27, 28, 29, 30, 31, 32, 34, 35, 36, 37, 38, 39, 40, 41, 42]
noncomputable def kL : List Str := []
noncomputable def kH : PySem.W.Hook := PySem.W.kHook kK Ny fun _ => by kernel_rfl
theorem Ec {r : PySem.W.OpenRow} {q : Program} {loose : List Str} {H : PySem.W.Hook} {d : DefRec} {FI : List (Str × Expr)} {N : Nat} (left : PySem.W.LeftO r.prog q loose (fun s => PySem.W.xlAt q [] s && PySem.W.recOk r.records s) H.obs H.val N)
    (L7 : PySem.W.defOf q r.name = some (d, FI)) (hp : r.prog.theDef r.name = some (d.params, d.body, d.scope)) (hk : PySem.W.kwWritten? d.params.kwonlyargs d.params.kw_defaults = some FI) (Nz : (!r.writes || r.records.isEmpty) = true) (k1 : r.wellSaid = true)
    (ok : (PySem.W.chainsOk q && PySem.W.opensWell r.prog && (PySem.W.frees r.toRowW && r.within.isEmpty)) = true) (hb : r.prog.bare) (hw : r.toRowW.promised) (call : PySem.W.WalkO q loose (PySem.W.XL q []) H.says r.toRowW d FI fun f vs => PySem.call f vs) : r.Holds :=
  PySem.W.holds_open left H.of H.keeps (fun s e => PySem.W.xl_of s (Bool.and_eq_true_iff.mp e).1) PySem.W.XL.keeps L7 hp hk (fun s e => PySem.W.recFacts_of (Bool.and_eq_true_iff.mp e).2) Nz k1 ok hb hw call
set_option maxHeartbeats 0 in
theorem left (w : World) : (PySem.W.openEnds treeTable PySem.Challenge.pw_roadcall_k21_no_sets_and_no_words w 5222).map (fun s => (PySem.W.openSeen kq kL (importedModules PySem.Challenge.pw_roadcall_k21_no_sets_and_no_words.main.body) (fun s => PySem.W.xlAt kq [] s && PySem.W.recOk [] s) true s, kH.obs s)) = some (PySem.W.openGood kq kL, kH.val w) := by
  kernel_rfl
end My
namespace L2
open PySem PySem.Spec PyProof.Rows
noncomputable abbrev Key := Sum Int Str
noncomputable def nr : Key → Value → Bool
  | .inl k, v => Value.isInt k v
  | .inr x, v => Value.isStrOf x v
noncomputable def L8 (w : World) : Key → Int
  | .inl k => hashInt k
  | .inr x => hashStr w x
theorem cn : ∀ {k : Key} {v : Value}, nr k v = true → (∃ i t, k = Sum.inl i ∧ v = Value.int i t) ∨ (∃ x t, k = Sum.inr x ∧ v = Value.str x t)
  | .inl i, v, h => by
    obtain ⟨t, e⟩ := Value.isInt_shape (k := i) (v := v) h
    exact .inl ⟨i, t, rfl, e⟩
  | .inr x, v, h => by
    obtain ⟨t, e⟩ := Value.isStrOf_shape (x := x) (v := v) h
    exact .inr ⟨x, t, rfl, e⟩
theorem yz (i : Int) (t : Tok) : nr (.inl i) (.int i t) = true := by simp [nr, Value.isInt]
theorem yA (x : Str) (t : Tok) : nr (.inr x) (.str x t) = true := by simp [nr, Value.isStrOf]
theorem FJ (a b : Int) : decide ((Sum.inl a : Key) = Sum.inl b) = (a == b) := by
  by_cases e : a = b
  · subst e; simp
  · have h : ¬ (Sum.inl a : Key) = Sum.inl b := fun q => e (Sum.inl.inj q)
    rw [decide_eq_false h]
    exact (beq_eq_false_iff_ne.mpr e).symm
theorem FK (a b : Str) : decide ((Sum.inr a : Key) = Sum.inr b) = decide (a = b) := by
  by_cases e : a = b
  · subst e; simp
  · have h : ¬ (Sum.inr a : Key) = Sum.inr b := fun q => e (Sum.inr.inj q)
    rw [decide_eq_false h, decide_eq_false e]
theorem FL (a : Int) (b : Str) : decide ((Sum.inl a : Key) = Sum.inr b) = false := decide_eq_false (fun q => nomatch q)
theorem FN (a : Str) (b : Int) : decide ((Sum.inr a : Key) = Sum.inl b) = false := decide_eq_false (fun q => nomatch q)
noncomputable def bS (prog : Program) (w : World) : PySem.KeyKind prog w Key where
  is := nr
  hash := L8 w
  inj := fun v a b ha hb => by
    rcases cn ha with ⟨i, t, rfl, rfl⟩ | ⟨x, t, rfl, rfl⟩
    · rcases cn hb with ⟨j, u, rfl, e⟩ | ⟨y, u, rfl, e⟩
      · injection e with e1 _; rw [e1]
      · exact nomatch e
    · rcases cn hb with ⟨j, u, rfl, e⟩ | ⟨y, u, rfl, e⟩
      · exact nomatch e
      · injection e with e1 _; rw [e1]
  byValue := fun k v h => by
    rcases cn h with ⟨i, t, rfl, rfl⟩ | ⟨x, t, rfl, rfl⟩ <;> rfl
  pyHash := fun hv h => by
    rcases cn hv with ⟨i, t, rfl, rfl⟩ | ⟨x, t, rfl, rfl⟩
    · exact wpAny_pyHash_int h
    · exact wpAny_pyHash_str h
  eqBool := fun hu hv h => by
    rcases cn hu with ⟨i, t, rfl, rfl⟩ | ⟨x, t, rfl, rfl⟩
    · rcases cn hv with ⟨j, u, rfl, rfl⟩ | ⟨y, u, rfl, rfl⟩
      · rw [FJ] at h; exact wpAny_eqBool_int h
      · rw [FL] at h; exact SeqAt.EqAt.int_str i t y u _ _ _ _ h
    · rcases cn hv with ⟨j, u, rfl, rfl⟩ | ⟨y, u, rfl, rfl⟩
      · rw [FN] at h; exact SeqAt.EqAt.str_int x t j u _ _ _ _ h
      · rw [FK] at h; exact wpAny_eqBool_str h
  «strs» := fun k x t v h => by
    rcases cn h with ⟨i, u, rfl, e⟩ | ⟨y, u, rfl, e⟩
    · exact nomatch e
    · injection e with e1 _
      subst e1
      cases v <;> rfl
theorem u3 (prog : Program) (w : World) (i : Int) (t : Tok) : (bS prog w).is (.inl i) (.int i t) = true := yz i t
theorem u5 (prog : Program) (w : World) (x : Str) (t : Tok) : (bS prog w).is (.inr x) (.str x t) = true := yA x t
inductive V where
  | aq | bl (b : Bool) | int (i : Int) | str (x : Str) | iY (b : Array UInt8) | vM (b : UInt64) | ref (a : Addr) | ty (n : String)
  deriving DecidableEq
noncomputable def RelV : V → Value → Prop
  | .aq, u => u = Value.none
  | .bl b, u => u = Value.bool b
  | .int i, u => ∃ t, u = Value.int i t
  | .str x, u => ∃ t, u = Value.str x t
  | .iY b, u => ∃ t, u = Value.bytes b t
  | .vM b, u => ∃ t, u = Value.float b t
  | .ref a, u => u = Value.ref a
  | .ty n, u => u = Value.type n
noncomputable abbrev Vals : List V → List Value → Prop := Paired RelV
theorem Vals.length {xs : List V} {us : List Value} (r : Vals xs us) : xs.length = us.length := Paired.length r
theorem Vals.get : ∀ {xs : List V} {us : List Value} {i : Nat} {x : V}, Vals xs us → xs[i]? = some x → ∃ u, us[i]? = some u ∧ RelV x u
  | _, _, _, _, .nil, e => by simp at e
  | _, _, 0, _, .cons r _, e => by simp at e; subst e; exact ⟨_, rfl, r⟩
  | _, _, i + 1, x, .cons _ t, e => by
    obtain ⟨u, h1, h2⟩ := Vals.get (i := i) (x := x) t (by simpa using e)
    exact ⟨u, by simpa using h1, h2⟩
theorem Vals.set {x : V} {u : Value} (r : RelV x u) : ∀ {xs : List V} {us : List Value} (i : Nat), Vals xs us → Vals (xs.set i x) (us.set i u)
  | _, _, _, .nil => .nil
  | _, _, 0, .cons _ t => .cons r t
  | _, _, i + 1, .cons q t => .cons q (Vals.set r i t)
theorem Vals.append : ∀ {xs ys : List V} {us ws : List Value}, Vals xs us → Vals ys ws → Vals (xs ++ ys) (us ++ ws)
  | _, _, _, _, .nil, s => s
  | _, _, _, _, .cons r t, s => .cons r (Vals.append t s)
theorem Vals.take : ∀ {xs : List V} {us : List Value} (n : Nat), Vals xs us → Vals (xs.take n) (us.take n)
  | _, _, 0, _ => .nil
  | _, _, _ + 1, .nil => .nil
  | _, _, n + 1, .cons r t => .cons r (Vals.take n t)
theorem Vals.drop : ∀ {xs : List V} {us : List Value} (n : Nat), Vals xs us → Vals (xs.drop n) (us.drop n)
  | _, _, 0, r => r
  | _, _, _ + 1, .nil => .nil
  | _, _, n + 1, .cons _ t => Vals.drop n t
noncomputable def iZ : Option V → Option Value → Prop
  | some v, some u => RelV v u
  | none, none => True
  | _, _ => False
noncomputable def KV {κ : Type} : List (κ × V) → List (κ × Value) → Prop := Paired fun (p : κ × V) (q : κ × Value) => p.1 = q.1 ∧ RelV p.2 q.2
noncomputable def kV : Key → V
  | .inl i => .int i
  | .inr x => .str x
inductive HO where
  | lst (xs : List V)
  | tup (xs : List V)
  | dK (ao : List (Key × V)) | dT (ao : List (List Key × V))
  | set (S : Int → Bool) (n : Nat)
  | ins (C dx : Addr) (fs : List (Str × V))
  | own (x : Addr)
  | xd (fs : List (Str × V))
  | met (f x : Addr)
  | rng (lo hi : Int)
  | fm (o : Obj) (u : HO)
  | cf (ps : Array Value)
  | lam (ps : Array Value)
  | ext (φ : Heap → Prop)
noncomputable abbrev Hp := Addr → Option HO
noncomputable def upd (H : Hp) (a : Addr) (o : HO) : Hp := fun b => if b = a then some o else H b
theorem aj {H : Hp} {a : Addr} {o : HO} : upd H a o a = some o := by unfold upd; rw [if_pos rfl]
theorem ae {H : Hp} {a b : Addr} {o : HO} (h : b ≠ a) : upd H a o b = H b := by unfold upd; rw [if_neg h]
theorem vN {H : Hp} {a : Addr} {o u : HO} : upd (upd H a o) a u = upd H a u := by
  funext b; unfold upd; split <;> rfl
theorem wN {H : Hp} {a b : Addr} {o u : HO} (h : H a = some o) (h' : H b = some u) (d : o ≠ u) : a ≠ b := by
  intro e; subst e; rw [h] at h'; exact d (Option.some.inj h')
theorem av {H : Hp} {a b : Addr} {o : HO} (h : H a = some o) (h' : H b = none) : a ≠ b := by
  intro e; subst e; rw [h] at h'; cases h'
section
variable (P : Program) (w : World)
noncomputable def ir (h : Heap) (a : Addr) (items : Array Value) : Prop := ∃ o, h.get? a = some o ∧ o.cls = .type "tuple" ∧ ∃ n, o.data = .seq items n ∧ o.dict = none
theorem ir.tup {h : Heap} {a : Addr} {items : Array Value} (x : ir h a items) : IsTup h a items := let ⟨o, e, c, n, d, _⟩ := x; ⟨o, e, c, n, d⟩
theorem ir.lt {h : Heap} {a : Addr} {items : Array Value} (x : ir h a items) : a < h.objs.size := x.tup.lt
theorem ir.new (h : Heap) (items : Array Value) : ir (h.push { cls := .type "tuple", data := .seq items }) h.objs.size items := ⟨_, Heap.get?_push_size _ rfl, rfl, _, rfl, rfl⟩
noncomputable def ObjOk (H : Hp) (h : Heap) (a : Addr) : HO → Prop
  | .lst xs => xs.length ≤ sizeLine ∧ ∃ (its : List Value) (n : Nat), Vals xs its ∧ h.get? a = some { cls := .type "list", data := .seq its.toArray n }
  | .tup xs => xs.length ≤ sizeLine ∧ ∃ its : List Value, Vals xs its ∧ ir h a its.toArray
  | .dK ao => ao.length ≤ sizeLine ∧ (a == sysModules) = false ∧ ∃ vs, KV ao vs ∧ h.DictOf (bS P w) a vs
  | .dT ao => ao.length ≤ sizeLine ∧ (a == sysModules) = false ∧ ∃ xs : List (List Key × Addr × Value),
      Paired (fun (p : List Key × V) (q : List Key × Addr × Value) => p.1 = q.1 ∧ H q.2.1 = some (.tup (p.1.map kV)) ∧ RelV p.2 q.2.2) ao xs ∧
      ∃ o es ep, h.get? a = some o ∧ o.ExactDict ∧ o.data = .dict es ep ∧ es.toList = xs.map (entryOfKey (tupleKind (bS P w))) ∧ (xs.map (·.1)).Nodup
  | .set S n => h.SetOf (intKind P w) a S n
  | .ins C dx fs => H dx = some (.own a) ∧ fs.length ≤ 1000 ∧ dx ≠ a ∧ h.get? a = some (PySem.W.instObj C dx) ∧
      ∃ mA, h.Ns1 dx mA ∧ (∀ f, iZ (fs.lookup f) (mA f)) ∧ PySem.Within mA (fs.map (·.1))
  | .own _ => ∃ o, h.get? a = some o
  | .xd fs => ∃ mA, h.Ns1 a mA ∧ ∀ f, iZ (fs.lookup f) (mA f)
  | .rng lo hi => ∃ t u v, h.get? a = some { cls := .type "range", data := .fields #[.int lo t, .int hi u, .int 1 v] }
  | .fm o u => h.get? a = some o ∧ ObjOk H h a u
  | .cf ps => h.get? a = some { cls := .none, data := .fields ps }
  | .lam ps => h.get? a = some { cls := .none, data := .fields ps }
  | .met f x => h.get? a = some (PySem.W.methodObj (.ref f) (.ref x))
  | .ext φ => φ h ∧ (∃ o, h.get? a = some o) ∧ ∀ h1 h2 : Heap, φ h1 → (∀ o, h1.get? a = some o → h2.get? a = some o) → φ h2
noncomputable def cJ (H : Hp) (h : Heap) : Prop := ∀ a o, H a = some o → ObjOk P w H h a o
end
section
variable {P : Program} {w : World} {H H' : Hp} {h h' : Heap} {a : Addr} {o : HO}
theorem ObjOk.lt (x : ObjOk P w H h a o) : a < h.objs.size := by
  cases o with
  | lst xs => obtain ⟨_, _, _, _, e⟩ := x; exact Heap.lt_size e
  | tup xs => obtain ⟨_, _, _, p⟩ := x; exact p.lt
  | dK ao => obtain ⟨_, _, _, _, o, _, _, e, _⟩ := x; exact Heap.lt_size e
  | dT ao => obtain ⟨_, _, _, _, o, _, _, e, _⟩ := x; exact Heap.lt_size e
  | set S n => obtain ⟨o, _, _, _, e, _⟩ := x; exact Heap.lt_size e
  | ins C dx fs => obtain ⟨_, _, _, e, _⟩ := x; exact Heap.lt_size e
  | own y => obtain ⟨_, e⟩ := x; exact Heap.lt_size e
  | xd fs => obtain ⟨_, ⟨_, _, _, e, _⟩, _⟩ := x; exact Heap.lt_size e
  | rng lo hi => obtain ⟨_, _, _, e⟩ := x; exact Heap.lt_size e
  | fm ob u => obtain ⟨e, _⟩ := x; exact Heap.lt_size e
  | cf ps => exact Heap.lt_size (show h.get? a = some _ from x)
  | lam ps => exact Heap.lt_size (show h.get? a = some _ from x)
  | met f y => exact Heap.lt_size (show h.get? a = some _ from x)
  | ext φ => obtain ⟨_, ⟨_, e⟩, _⟩ := x; exact Heap.lt_size e
theorem Paired.sL {α β : Type} {F G : α → β → Prop} : ∀ {FO : List α} {FP : List β}, Paired F FO FP → (∀ a b, F a b → G a b) → Paired G FO FP
  | _, _, .nil, _ => .nil
  | _, _, .cons r t, f => .cons (f _ _ r) (Paired.sL t f)
theorem ObjOk.cp (x : ObjOk P w H h a o) (k : ∀ b u, (b = a ∨ H b = some (.own a)) → h.get? b = some u → h'.get? b = some u)
    (ho : ∀ b, H b = some (.own a) → H' b = some (.own a)) (ht : ∀ b xs, H b = some (.tup xs) → H' b = some (.tup xs)) : ObjOk P w H' h' a o := by
  induction o with
  | lst xs => obtain ⟨z, its, n, r, e⟩ := x; exact ⟨z, its, n, r, k _ _ (.inl rfl) e⟩
  | tup xs => obtain ⟨z, its, r, ob, e, c⟩ := x; exact ⟨z, its, r, ob, k _ _ (.inl rfl) e, c⟩
  | dK ao => obtain ⟨z, y, vs, r, ob, es, ep, e, c⟩ := x; exact ⟨z, y, vs, r, ob, es, ep, k _ _ (.inl rfl) e, c⟩
  | dT ao =>
    obtain ⟨z, y, xs, r, ob, es, ep, e, c⟩ := x
    exact ⟨z, y, xs, Paired.sL r fun p q z => ⟨z.1, ht _ _ z.2.1, z.2.2⟩, ob, es, ep, k _ _ (.inl rfl) e, c⟩
  | set S n => obtain ⟨ob, es, ep, t, e, c⟩ := x; exact ⟨ob, es, ep, t, k _ _ (.inl rfl) e, c⟩
  | ins C dx fs =>
    obtain ⟨d, z, ne, e, mA, ⟨od, es, ep, e2, c⟩, r⟩ := x
    exact ⟨ho _ d, z, ne, k _ _ (.inl rfl) e, mA, ⟨od, es, ep, k _ _ (.inr d) e2, c⟩, r⟩
  | own y => obtain ⟨ob, e⟩ := x; exact ⟨ob, k _ _ (.inl rfl) e⟩
  | xd fs => obtain ⟨mA, ⟨od, es, ep, e, c⟩, r⟩ := x; exact ⟨mA, ⟨od, es, ep, k _ _ (.inl rfl) e, c⟩, r⟩
  | rng lo hi => obtain ⟨t, u, v, e⟩ := x; exact ⟨t, u, v, k _ _ (.inl rfl) e⟩
  | fm ob u ih => obtain ⟨e, q⟩ := x; exact ⟨k _ _ (.inl rfl) e, ih q⟩
  | cf ps =>
    have e : h.get? a = some { cls := .none, data := .fields ps } := x
    show h'.get? a = some { cls := .none, data := .fields ps }
    exact k a _ (.inl rfl) e
  | lam ps =>
    have e : h.get? a = some { cls := .none, data := .fields ps } := x
    show h'.get? a = some { cls := .none, data := .fields ps }
    exact k a _ (.inl rfl) e
  | met f y =>
    have e : h.get? a = some (PySem.W.methodObj (.ref f) (.ref y)) := x
    show h'.get? a = some (PySem.W.methodObj (.ref f) (.ref y))
    exact k a _ (.inl rfl) e
  | ext φ => obtain ⟨p, ⟨o, e⟩, st⟩ := x; exact ⟨st _ _ p fun o q => k _ _ (.inl rfl) q, ⟨o, k _ _ (.inl rfl) e⟩, st⟩
theorem cJ.lt (x : cJ P w H h) (e : H a = some o) : a < h.objs.size := (x a o e).lt
theorem cJ.fresh (x : cJ P w H h) (e : h.objs.size ≤ a) : H a = none := by
  cases q : H a with
  | none => rfl
  | some u => exact absurd (Nat.lt_of_lt_of_le (x.lt q) e) (Nat.lt_irrefl _)
theorem cJ.kept (x : cJ P w H h) (k : ∀ b u, h.get? b = some u → h'.get? b = some u) : cJ P w H h' := fun a o e =>
  (x a o e).cp (fun b u _ q => k b u q) (fun _ q => q) fun _ _ q => q
theorem cJ.laid (x : cJ P w H h) (k : ∀ b u, h.get? b = some u → h'.get? b = some u) (hp : h.objs.size ≤ a) (new : ObjOk P w (upd H a o) h' a o) : cJ P w (upd H a o) h' := fun b u e => by
  have hn := x.fresh hp
  by_cases hb : b = a
  · subst hb; rw [aj] at e; cases e; exact new
  · rw [ae hb] at e
    exact (x b u e).cp (fun c v _ q => k c v q) (fun c q => by rw [ae (av q hn)]; exact q) fun c xs q => by rw [ae (av q hn)]; exact q
end
noncomputable def Rd (H : Hp) (a : Addr) (u : HO) : Prop := H a = some u ∨ ∃ o, H a = some (.fm o u)
theorem Rd.ok {P : Program} {w : World} {H : Hp} {h : Heap} {a : Addr} {u : HO} (r : Rd H a u) (x : cJ P w H h) : ObjOk P w H h a u := by
  rcases r with r | ⟨o, r⟩
  · exact x a u r
  · obtain ⟨_, q⟩ := x a _ r
    exact q
noncomputable def yB : Option HO → Prop
  | some (.lst _) => True
  | some (.dK _) => True
  | some (.dT _) => True
  | some (.set _ _) => True
  | some (.ins _ _ _) => True
  | some (.ext _) => True
  | some (.lam _) => True
  | _ => False
section
variable {P : Program} {w : World} {H : Hp} {h h' : Heap} {x e : Addr} {o' : HO}
theorem cJ.write (ok : cJ P w H h) (mu : yB (H x)) (he : e = x ∨ H e = some (.own x)) (k : ∀ b u, b ≠ e → h.get? b = some u → h'.get? b = some u) (vO : ∃ u, h'.get? e = some u)
    (new : ObjOk P w (upd H x o') h' x o') : cJ P w (upd H x o') h' := fun b u q => by
  have FQ : ∀ c y, H c = some (.own y) → c ≠ x := fun c y r z => by subst z; rw [r] at mu; exact mu
  have L9 : ∀ c xs, H c = some (.tup xs) → c ≠ x := fun c xs r z => by subst z; rw [r] at mu; exact mu
  by_cases hb : b = x
  · subst hb; rw [aj] at q; cases q; exact new
  · rw [ae hb] at q
    by_cases sM : b = e
    · have q' : H b = some (.own x) := by
        rcases he with z | z
        · exact absurd (sM.trans z) hb
        · rw [sM]; exact z
      rw [q] at q'; cases q'
      obtain ⟨v, hv⟩ := vO
      exact ⟨v, by rw [sM]; exact hv⟩
    · refine (ok b u q).cp (fun c v hc r => k c v ?_ r) (fun c r => by rw [ae (FQ c b r)]; exact r) fun c xs r => by rw [ae (L9 c xs r)]; exact r
      rcases hc with rfl | hc
      · exact sM
      · rintro rfl
        rcases he with z | z
        · exact FQ c b hc z
        · rw [hc] at z; cases z; exact hb rfl
end
structure Un (fs ex : List Addr) (H H' : Hp) (h h' : Heap) : Prop where
  keep : ∀ b o, h.get? b = some o → H b = none → b ∉ fs → b ∉ ex → h'.get? b = some o
  slot : ∀ b o, h.get? b = some o → H b = none → b ∈ fs → b ∉ ex → ∃ sl, h'.get? b = some { o with slots := sl }
  free : ∀ b o, h.get? b = some o → H b = none → b ∉ ex → H' b = none
  there : ∀ b o, h.get? b = some o → b ∉ ex → ∃ o', h'.get? b = some o'
  tups : ∀ b xs, H b = some (.tup xs) → H' b = some (.tup xs)
  frzs : ∀ b o u, H b = some (.fm o u) → H' b = some (.fm o u)
  tbls : ∀ b ps, H b = some (.cf ps) → ∃ more, H' b = some (.cf (ps ++ more))
section
variable {fs NA ex P5 : List Addr} {H H1 H2 : Hp} {h h1 h2 h' : Heap} {a x e : Addr} {o : HO}
theorem Un.any (u : Un fs ex H H1 h h1) {b : Addr} {ob : Obj} (q : h.get? b = some ob) (n : H b = none) (hx : b ∉ ex) : ∃ sl, h1.get? b = some { ob with slots := sl } := by
  by_cases hb : b ∈ fs
  · exact u.slot b ob q n hb hx
  · exact ⟨ob.slots, u.keep b ob q n hb hx⟩
theorem Un.kept (k : ∀ b u, h.get? b = some u → h'.get? b = some u) : Un fs ex H H h h' :=
  ⟨fun b ob q _ _ _ => k b ob q, fun b ob q _ _ _ => ⟨ob.slots, k b ob q⟩, fun _ _ _ n _ => n, fun b ob q _ => ⟨ob, k b ob q⟩, fun _ _ q => q, fun _ _ _ q => q, fun _ ps q => ⟨#[], by rw [q]; simp⟩⟩
theorem Un.refl : Un fs ex H H h h := Un.kept fun _ _ q => q
theorem Un.laid (k : ∀ b u, h.get? b = some u → h'.get? b = some u) (hp : h.objs.size ≤ a) (hn : H a = none) : Un fs ex H (upd H a o) h h' where
  keep := fun b u q _ _ _ => k b u q
  slot := fun b u q _ _ _ => ⟨u.slots, k b u q⟩
  free := fun b u q n _ => by rw [ae (Nat.ne_of_lt (Nat.lt_of_lt_of_le (Heap.lt_size q) hp))]; exact n
  there := fun b u q _ => ⟨u, k b u q⟩
  tups := fun b xs q => by rw [ae (av q hn)]; exact q
  frzs := fun b u xs q => by rw [ae (av q hn)]; exact q
  tbls := fun b ps q => ⟨#[], by rw [ae (av q hn), q]; simp⟩
theorem Un.write (mu : yB (H x)) (he : e = x ∨ H e = some (.own x)) (k : ∀ b u, b ≠ e → h.get? b = some u → h'.get? b = some u) (vO : ∃ u, h'.get? e = some u) : Un fs ex H (upd H x o) h h' := by
  have hx : ∀ b, H b = none → b ≠ x := fun b n z => by subst z; rw [n] at mu; exact mu
  have hb : ∀ b, H b = none → b ≠ e := fun b n z => by
    subst z
    rcases he with r | r
    · exact hx b n r
    · rw [n] at r; cases r
  have hm : ∀ b u, H b = some u → ¬ yB (some u) → b ≠ x := fun b u q nm z => by subst z; rw [q] at mu; exact nm mu
  refine ⟨fun b u q n _ _ => k b u (hb b n) q, fun b u q n _ _ => ⟨u.slots, k b u (hb b n) q⟩, fun b u q n _ => by rw [ae (hx b n)]; exact n, fun b u q _ => ?_,
    fun b xs q => by rw [ae (hm b _ q fun z => z)]; exact q, fun b u xs q => by rw [ae (hm b _ q fun z => z)]; exact q, fun b ps q => ⟨#[], by rw [ae (hm b _ q fun z => z), q]; simp⟩⟩
  by_cases sM : b = e
  · subst sM; exact vO
  · exact ⟨u, k b u sM q⟩
end
noncomputable def Dh (h : Heap) (H : Hp) : List Addr := (List.range h.objs.size).filter fun a => (H a).isSome
noncomputable def i5 (h : Heap) (H : Hp) : Heap := PySem.W.hideAll h (Dh h H)
theorem yC (h : Heap) (H : Hp) : (i5 h H).objs.size = h.objs.size := PySem.W.hideAll_size _ _
theorem Bg {h : Heap} {H : Hp} {b : Addr} {o : Obj} (e : h.get? b = some o) (n : H b = none) : (i5 h H).get? b = some o :=
  PySem.W.hideAll_get _ e fun hm => by
    have q : (H b).isSome = true := (List.mem_filter.mp hm).2
    rw [n] at q; simp at q
theorem Ed {h : Heap} {H : Hp} {b : Addr} {o : Obj} (e : (i5 h H).get? b = some o) : h.get? b = some o ∧ H b = none := by
  have e' : h.get? b = some o := PySem.W.of_hideAll (Dh h H) e
  refine ⟨e', ?_⟩
  cases q : H b with
  | none => rfl
  | some x =>
    have hm : b ∈ Dh h H := List.mem_filter.mpr ⟨List.mem_range.mpr (Heap.lt_size e'), by simp [q]⟩
    have z : (i5 h H).get? b = none := PySem.W.hideAll_none (Dh h H) hm
    rw [z] at e; cases e
noncomputable def Ee (g h : Heap) (L : Addr) : List (Addr × Obj) := (List.range h.objs.size).filterMap fun a => if a = L ∨ (g.get? a).isSome = true then none else (h.get? a).map fun o => (a, o)
noncomputable def rest (g h : Heap) (L d : Addr) : List (Addr × Obj) := (Ee g h L).filter fun p => decide (p.1 ≠ d)
structure Mod (K : PySem.W.Frag) (mg : Str → Option Value) (base : Heap) : Prop where
  kin : K.In base
  glob : base.Ns mainGlobals mg
  blt : ∃ mb, base.Ns builtinsNs mb ∧ ∀ x : Str, x ≠ "__name__" → mb x = bootBuiltins x
  nolimit : base.NoLimit
structure Cx where
  prog : Program
  w : World
  K : PySem.W.Frag
  mg : Str → Option Value
  base : Heap
  A : Around
  N : List Str
  s₀ : Shared
  H₀ : Hp
  env : Env
  outer : List Env
  stack : List Env
  ex : List Addr
  fn : Str → Bool
  calm : Bool
  pn : List (Addr × Obj)
  xe : Value → Shared → Prop
noncomputable def fo (l : List Env) : List Addr := l.filterMap (·.frame)
noncomputable abbrev Cx.fs (X : Cx) : List Addr := fo X.outer
noncomputable def sN (sc : Scope) (x : Str) : Prop := sc.names.lookup x = some .local ∨ sc.names.lookup x = some .cell ∨ sc.names.lookup x = some .free
noncomputable def Loc (sc : Scope) (x : Str) : Prop := sc.names.lookup x = some .local ∨ sc.names.lookup x = some .cell
noncomputable def Look (env : Env) (h : Heap) (m : Str → Option Value) (x : Str) (u : Value) : Prop :=
  (env.kindOf x = some .local ∧ m x = some u) ∨ ((env.kindOf x = some .cell ∨ env.kindOf x = some .free) ∧ ∃ c, env.cells.lookup x = some c ∧ h.IsCell c (some u))
structure Cx.Ok (X : Cx) : Prop where
  mod : Mod X.K X.mg X.base
  kind : X.env.scope.kind = .function
  glob : X.env.globals = mainGlobals
  blt : X.env.builtins = builtinsNs
  above : X.s₀.heap.objs.size ≤ X.env.locals
  inj : ∀ x y c, X.env.cells.lookup x = some c → X.env.cells.lookup y = some c → x = y
  has : ∀ x, (X.env.kindOf x = some .cell ∨ X.env.kindOf x = some .free) → ∃ c, X.env.cells.lookup x = some c
  cab : ∀ x c, X.fn x = true → X.env.cells.lookup x = some c → X.s₀.heap.objs.size ≤ c
  hd : X.calm = true → X.A.handled = none
  frames : X.A.frames = some X.stack
  stk : X.stack = X.outer ∨ (X.stack = X.env :: X.outer ∧ X.env.frame = some X.env.locals)
  exf : ∀ b ∈ X.ex, b ≠ X.env.locals ∧ ∀ x c, X.env.cells.lookup x = some c → c ≠ b
  bs : ∀ b o, X.base.get? b = some o → X.s₀.heap.get? b = some o ∧ X.H₀ b = none
  bsz : X.base.objs.size ≤ X.s₀.heap.objs.size
  noex : ∀ b o, X.base.get? b = some o → b ∉ X.ex
  exfs : ∀ b ∈ X.ex, b ∉ X.fs
  funs : X.s₀.heap.FunFrames X.base X.outer
  frf : ∀ b ∈ X.fs, X.H₀ b = none
noncomputable def Gn (n : Nat) (g : Array GenState) : Prop := AllBare g ∧ n ≤ g.size
theorem Gn.self {n : Nat} {g : Array GenState} (x : Gn n g) : Gn g.size g := ⟨x.1, Nat.le_refl _⟩
theorem Gn.trans {n : Nat} {g g' : Array GenState} (x : Gn n g) (y : Gn g.size g') : Gn n g' := ⟨y.1, Nat.le_trans x.2 y.2⟩
structure Inv (X : Cx) (pins : List (Addr × Obj)) (σ : List (Option V)) (H : Hp) (s : Shared) : Prop where
  ok : X.Ok
  os : s.os = X.s₀.os
  bare : Gn X.s₀.gens.size s.gens
  base : Un X.fs X.ex X.H₀ H X.s₀.heap s.heap
  loc : ∃ m, s.heap.Ns X.env.locals m ∧ ∀ (i : Nat) (x : Str) (v : V), X.N[i]? = some x → σ[i]? = some (some v) → sN X.env.scope x → ∃ u, RelV v u ∧ Look X.env s.heap m x u
  cell : ∀ x c, X.env.cells.lookup x = some c → ∃ v, s.heap.IsCell c v
  free : H X.env.locals = none
  freeC : ∀ x c, X.env.cells.lookup x = some c → H c = none
  pin : ∀ p ∈ X.pn ++ pins, s.heap.get? p.1 = some p.2 ∧ H p.1 = none ∧ p.1 ≠ X.env.locals ∧ p.1 ∉ X.fs ∧ ∀ v, p.2.data ≠ .cell v
  hok : cJ X.prog X.w H s.heap
  len : σ.length = X.N.length
section
variable {X : Cx} {pins : List (Addr × Obj)} {σ : List (Option V)} {H H' : Hp} {s : Shared} {h' : Heap}
theorem Cx.Ok.Ma (ok : X.Ok) {b : Addr} {o : Obj} (e : X.base.get? b = some o) : b ∉ X.fs := fun hb => by
  have := (ok.funs.mem hb).1
  rw [e] at this; cases this
theorem Inv.bs (I : Inv X pins σ H s) : ∀ b o, X.base.get? b = some o → s.heap.get? b = some o ∧ H b = none := fun b o e =>
  ⟨I.base.keep b o (I.ok.bs b o e).1 (I.ok.bs b o e).2 (I.ok.Ma e) (I.ok.noex b o e), I.base.free b o (I.ok.bs b o e).1 (I.ok.bs b o e).2 (I.ok.noex b o e)⟩
theorem Inv.bk (I : Inv X pins σ H s) : ∀ b o, X.base.get? b = some o → s.heap.get? b = some o := fun b o e => (I.bs b o e).1
theorem Inv.mod (I : Inv X pins σ H s) : Mod X.K X.mg X.base := I.ok.mod
theorem Inv.fA (I : Inv X pins σ H s) : X.K.In s.heap := I.ok.mod.kin.keeps I.bk
theorem Inv.nolimit (I : Inv X pins σ H s) : s.heap.NoLimit := I.ok.mod.nolimit.keeps I.bk
theorem Inv.lt (I : Inv X pins σ H s) : X.env.locals < s.heap.objs.size := let ⟨_, hn, _⟩ := I.loc; hn.lt
theorem Inv.sz (I : Inv X pins σ H s) : X.s₀.heap.objs.size ≤ s.heap.objs.size := Nat.le_trans I.ok.above (Nat.le_of_lt I.lt)
theorem Inv.FR (I : Inv X pins σ H s) {a : Addr} (h : s.heap.objs.size ≤ a) : a ∉ X.fs := fun hb => by
  obtain ⟨_, o, ho, _⟩ := I.ok.funs.mem hb
  exact absurd (Nat.lt_of_lt_of_le (Heap.lt_size ho) (Nat.le_trans I.sz h)) (Nat.lt_irrefl _)
theorem Inv.qF (I : Inv X pins σ H s) : ∀ x c, X.env.cells.lookup x = some c → c ≠ X.env.locals := fun x c e z => by
  obtain ⟨v, o, ho, hd⟩ := I.cell x c e
  obtain ⟨m, ⟨o', es, ep, fB, jJ, _⟩, _⟩ := I.loc
  rw [z, fB] at ho; cases ho; rw [jJ] at hd; cases hd
theorem Inv.funs (I : Inv X pins σ H s) : s.heap.FunFrames X.base X.outer := by
  have all : ∀ (l : List Env), (∀ b ∈ fo l, b ∈ X.fs) → X.s₀.heap.FunFrames X.base l → s.heap.FunFrames X.base l := by
    intro l
    induction l with
    | nil => intro _ _; trivial
    | cons env r ih =>
      intro hs hl
      obtain ⟨hk, ⟨L, o, hf, hn, ho, hd⟩, hr⟩ := hl
      have hL : L ∈ X.fs := hs L (by unfold fo; rw [List.filterMap_cons, hf]; exact List.mem_cons_self)
      obtain ⟨sl, e⟩ := I.base.slot L o ho (I.ok.frf L hL) hL fun z => I.ok.exfs L z hL
      exact ⟨hk, ⟨L, _, hf, hn, e, hd⟩, ih (fun b hb => hs b (by unfold fo; rw [List.filterMap_cons, hf]; exact List.mem_cons_of_mem _ hb)) hr⟩
  exact all X.outer (fun _ hb => hb) I.ok.funs
theorem Inv.stack (I : Inv X pins σ H s) : s.heap.FunFrames X.base X.stack := by
  rcases I.ok.stk with e | ⟨e, hf⟩
  · rw [e]; exact I.funs
  · rw [e]
    obtain ⟨m, hn, _⟩ := I.loc
    refine .cons (by rw [I.ok.kind]; decide) hf hn ?_ I.funs
    exact Heap.get?_none_of_le (Nat.le_trans I.ok.bsz I.ok.above)
theorem Inv.g8 (I : Inv X pins σ H s) : ∀ b ∈ fo X.stack, b ∈ X.env.locals :: X.fs := fun b hb => by
  rcases I.ok.stk with e | ⟨e, hf⟩
  · rw [e] at hb; exact List.mem_cons_of_mem _ hb
  · rw [e] at hb
    unfold fo at hb
    rw [List.filterMap_cons, hf] at hb
    exact hb
theorem Inv.pV (I : Inv X pins σ H s) : ∀ b ∈ fo X.stack, H b = none := fun b hb => by
  rcases List.mem_cons.mp (I.g8 b hb) with e | hb
  · rw [e]; exact I.free
  · obtain ⟨_, o, ho, _⟩ := I.ok.funs.mem hb
    exact I.base.free b o ho (I.ok.frf b hb) fun z => I.ok.exfs b z hb
theorem Inv.step {g' : Array GenState} {t' : Nat} {d' : Drawn} {ch : List Addr} (I : Inv X pins σ H s)
    (nK : ∀ b ∈ ch, (b ∈ X.ex ∨ X.s₀.heap.objs.size ≤ b) ∧ b ≠ X.env.locals ∧ (∀ x c, X.env.cells.lookup x = some c → c ≠ b) ∧ ∀ p ∈ X.pn ++ pins, p.1 ≠ b)
    (keep : ∀ b o, b ≠ X.env.locals → b ∉ X.fs → b ∉ ch → s.heap.get? b = some o → H b = none → h'.get? b = some o)
    (slot : ∀ b o, b ≠ X.env.locals → b ∈ X.fs → b ∉ ch → s.heap.get? b = some o → H b = none → ∃ sl, h'.get? b = some { o with slots := sl }) (free : ∀ b o, b ∉ ch → s.heap.get? b = some o → H b = none → H' b = none)
    (there : ∀ b o, b ∉ ch → s.heap.get? b = some o → ∃ o', h'.get? b = some o')
    (tups : ∀ b xs, H b = some (.tup xs) → H' b = some (.tup xs)) (frzs : ∀ b o u, H b = some (.fm o u) → H' b = some (.fm o u)) (tbls : ∀ b ps, H b = some (.cf ps) → ∃ more, H' b = some (.cf (ps ++ more)))
    (ns : ∀ m, s.heap.Ns X.env.locals m → h'.Ns X.env.locals m) (hok : cJ X.prog X.w H' h') (hg : Gn s.gens.size g') :
    Inv X pins σ H' { s with heap := h', gens := g', drawn := d', toks := t' } := by
  have Kr : ∀ b o, X.s₀.heap.get? b = some o → b ≠ X.env.locals := fun b o e => Nat.ne_of_lt (Nat.lt_of_lt_of_le (Heap.lt_size e) I.ok.above)
  have Di : ∀ b o, X.s₀.heap.get? b = some o → b ∉ X.ex → b ∉ ch := fun b o e hx hb => by
    rcases (nK b hb).1 with z | z
    · exact hx z
    · exact absurd (Nat.lt_of_lt_of_le (Heap.lt_size e) z) (Nat.lt_irrefl _)
  have cellK : ∀ x c, X.env.cells.lookup x = some c → ∀ v, s.heap.IsCell c v → h'.IsCell c v := fun x c e v ⟨o, ho, hd⟩ => by
    have yD : c ∉ ch := fun z => (nK c z).2.2.1 x c e rfl
    by_cases hc : c ∈ X.fs
    · obtain ⟨sl, q⟩ := slot c o (I.qF x c e) hc yD ho (I.freeC x c e)
      exact ⟨_, q, hd⟩
    · exact ⟨o, keep c o (I.qF x c e) hc yD ho (I.freeC x c e), hd⟩
  refine ⟨I.ok, I.os, I.bare.trans hg, ⟨fun b o e n hb hx => ?_, fun b o e n hb hx => ?_, fun b o e n hx => ?_, fun b o e hx => ?_, fun b xs e => tups b xs (I.base.tups b xs e), fun b o xs e => frzs b o xs (I.base.frzs b o xs e), fun b ps e => ?_⟩, ?_, fun x c e => ?_, ?_, fun x c e => ?_, fun p hp => ?_, hok, I.len⟩
  · exact keep b o (Kr b o e) hb (Di b o e hx) (I.base.keep b o e n hb hx) (I.base.free b o e n hx)
  · obtain ⟨sl, e1⟩ := I.base.slot b o e n hb hx
    obtain ⟨Ks, e2⟩ := slot b _ (Kr b o e) hb (Di b o e hx) e1 (I.base.free b o e n hx)
    exact ⟨Ks, e2⟩
  · obtain ⟨o', e1⟩ := I.base.there b o e hx
    exact free b o' (Di b o e hx) e1 (I.base.free b o e n hx)
  · obtain ⟨o', e1⟩ := I.base.there b o e hx
    exact there b o' (Di b o e hx) e1
  · obtain ⟨m1, e1⟩ := I.base.tbls b ps e
    obtain ⟨m2, e2⟩ := tbls b _ e1
    exact ⟨m1 ++ m2, by rw [e2, Array.append_assoc]⟩
  · obtain ⟨m, hn, hl⟩ := I.loc
    refine ⟨m, ns m hn, fun i x v e1 e2 e3 => ?_⟩
    obtain ⟨u, r, l⟩ := hl i x v e1 e2 e3
    refine ⟨u, r, ?_⟩
    rcases l with l | ⟨k, c, e, z⟩
    · exact .inl l
    · exact .inr ⟨k, c, e, cellK x c e _ z⟩
  · obtain ⟨v, z⟩ := I.cell x c e
    exact ⟨v, cellK x c e v z⟩
  · obtain ⟨m, ⟨o, _, _, ho, _⟩, _⟩ := I.loc
    exact free _ o (fun z => (nK _ z).2.1 rfl) ho I.free
  · obtain ⟨v, o, ho, hd⟩ := I.cell x c e
    exact free c o (fun z => (nK c z).2.2.1 x c e rfl) ho (I.freeC x c e)
  · obtain ⟨e, n, ne, nf, d⟩ := I.pin p hp
    have yD : p.1 ∉ ch := fun z => (nK p.1 z).2.2.2 p hp rfl
    exact ⟨keep p.1 p.2 ne nf yD e n, free p.1 p.2 yD e n, ne, nf, d⟩
theorem Inv.un {t' : Nat} (I : Inv X pins σ H s) (u : Un X.fs [] H H' s.heap h') (hok : cJ X.prog X.w H' h') : Inv X pins σ H' { s with heap := h', toks := t' } := by
  obtain ⟨m, ⟨o, es, ep, ho, r⟩, _⟩ := id I.loc
  obtain ⟨sl, hL⟩ := u.any ho I.free (by simp)
  exact I.step (g' := s.gens) (d' := s.drawn) (ch := []) (fun _ z => nomatch z) (fun b o _ hb _ e n => u.keep b o e n hb (by simp)) (fun b o _ hb _ e n => u.slot b o e n hb (by simp)) (fun b o _ e n => u.free b o e n (by simp)) (fun b o _ e => u.there b o e (by simp)) u.tups u.frzs u.tbls (fun m' hm => by
    obtain ⟨o', g9, FT, fB, r'⟩ := hm
    rw [ho] at fB; cases fB
    exact ⟨_, g9, FT, hL, r'⟩) hok I.bare.self
theorem Inv.call {g' : Array GenState} {t' : Nat} {d' : Drawn} {ch : List Addr} (I : Inv X pins σ H s) (u : Un (fo X.stack) ch H H' s.heap h') (hok : cJ X.prog X.w H' h') (hg : Gn s.gens.size g')
    (nK : ∀ b ∈ ch, (b ∈ X.ex ∨ X.s₀.heap.objs.size ≤ b) ∧ b ≠ X.env.locals ∧ (∀ x c, X.env.cells.lookup x = some c → c ≠ b) ∧ ∀ p ∈ X.pn ++ pins, p.1 ≠ b) :
    Inv X pins σ H' { s with heap := h', gens := g', drawn := d', toks := t' } := by
  obtain ⟨m, ⟨o, es, ep, ho, r⟩, _⟩ := id I.loc
  obtain ⟨sl, hL⟩ := u.any ho I.free fun z => (nK _ z).2.1 rfl
  exact I.step (ch := ch) nK (fun b o hL hb hc e n => u.keep b o e n (fun z => (List.mem_cons.mp (I.g8 b z)).elim hL hb) hc) (fun b o _ _ hc e n => u.any e n hc) (fun b o hc e n => u.free b o e n hc) (fun b o hc e => u.there b o e hc) u.tups u.frzs u.tbls (fun m' hm => by
    obtain ⟨o', g9, FT, fB, r'⟩ := hm
    rw [ho] at fB; cases fB
    exact ⟨_, g9, FT, hL, r'⟩) hok hg
theorem Inv.turned {t' : Nat} {it : Addr} (I : Inv X pins σ H s) (k : ∀ b o, b ≠ it → s.heap.get? b = some o → h'.get? b = some o) (hn : H it = none) (hL : it ≠ X.env.locals)
    (h1 : it ∈ X.ex ∨ X.s₀.heap.objs.size ≤ it) (h2 : ∀ x c, X.env.cells.lookup x = some c → c ≠ it) (h3 : ∀ p ∈ X.pn ++ pins, p.1 ≠ it) : Inv X pins σ H { s with heap := h', toks := t' } := by
  have Kt : ∀ b u, H b = some u → b ≠ it := fun b u e z => by rw [z, hn] at e; cases e
  refine I.step (g' := s.gens) (d' := s.drawn) (ch := [it]) (fun b hb => ?_) (fun b o _ _ hc e _ => k b o (fun z => hc (by simp [z])) e) (fun b o _ _ hc e _ => ⟨o.slots, k b o (fun z => hc (by simp [z])) e⟩) (fun _ _ _ _ n => n)
    (fun b o hc e => ⟨o, k b o (fun z => hc (by simp [z])) e⟩) (fun _ _ e => e) (fun _ _ _ e => e) (fun b ps e => ⟨#[], by rw [e]; simp⟩) (fun m hm => ?_) (fun b u e => ?_) I.bare.self
  · have e : b = it := by simpa using hb
    subst e
    exact ⟨h1, hL, h2, h3⟩
  · obtain ⟨o, es, ep, ho, r⟩ := hm
    exact ⟨o, es, ep, k _ o (Ne.symm hL) ho, r⟩
  · refine (I.hok b u e).cp (fun c v hc q => k c v ?_ q) (fun _ q => q) fun _ _ q => q
    rcases hc with z | z
    · rw [z]; exact Kt b u e
    · exact Kt c _ z
theorem Inv.tok (I : Inv X pins σ H s) (t : Nat) : Inv X pins σ H { s with toks := t } := I.un (h' := s.heap) (t' := t) Un.refl I.hok
theorem Inv.kept {t' : Nat} (I : Inv X pins σ H s) (k : ∀ b u, s.heap.get? b = some u → h'.get? b = some u) : Inv X pins σ H { s with heap := h', toks := t' } := I.un (Un.kept k) (I.hok.kept k)
theorem Inv.laid {a : Addr} {o : HO} {t' : Nat} (I : Inv X pins σ H s) (k : ∀ b u, s.heap.get? b = some u → h'.get? b = some u) (hp : s.heap.objs.size ≤ a) (new : ObjOk X.prog X.w (upd H a o) h' a o) :
    Inv X pins σ (upd H a o) { s with heap := h', toks := t' } := I.un (Un.laid k hp (I.hok.fresh hp)) (I.hok.laid k hp new)
theorem Inv.write {x e : Addr} {o : HO} {t' : Nat} (I : Inv X pins σ H s) (mu : yB (H x)) (he : e = x ∨ H e = some (.own x)) (k : ∀ b u, b ≠ e → s.heap.get? b = some u → h'.get? b = some u) (vO : ∃ u, h'.get? e = some u)
    (new : ObjOk X.prog X.w (upd H x o) h' x o) : Inv X pins σ (upd H x o) { s with heap := h', toks := t' } := I.un (Un.write mu he k vO) (I.hok.write mu he k vO new)
theorem Inv.pW {pins' : List (Addr × Obj)} (I : Inv X pins σ H s) (h : ∀ p ∈ pins', s.heap.get? p.1 = some p.2 ∧ H p.1 = none ∧ p.1 ≠ X.env.locals ∧ p.1 ∉ X.fs ∧ ∀ v, p.2.data ≠ .cell v) : Inv X pins' σ H s :=
  ⟨I.ok, I.os, I.bare, I.base, I.loc, I.cell, I.free, I.freeC, fun p hp => (List.mem_append.mp hp).elim (fun z => I.pin p (List.mem_append_left _ z)) (h p), I.hok, I.len⟩
theorem sO {N : List Str} (hN : N.Nodup) {i j : Nat} {x : Str} (a : N[i]? = some x) (b : N[j]? = some x) : i = j := by
  obtain ⟨h1, e1⟩ := List.getElem?_eq_some_iff.mp a
  obtain ⟨h2, e2⟩ := List.getElem?_eq_some_iff.mp b
  exact (List.getElem_inj hN).mp (e1.trans e2.symm)
theorem store_ok2 {M : Model} {A : Around} {E : Value → Shared → Prop} {i : Nat} {x : Str} {v : V} {u : Value} {Q : Unit → Shared → Prop} (I : Inv X pins σ H s) (hN : X.N.Nodup) (hi : X.N[i]? = some x) (hx : Loc X.env.scope x) (r : RelV v u)
    (h : ∀ s', Inv X pins (σ.set i (some v)) H s' → (∃ a, Heap.SameBut a s.heap s'.heap ∧ (a = X.env.locals ∨ X.env.cells.lookup x = some a)) → Q () s') (hf : X.fn x = true ∨ X.env.scope.names.lookup x = some .local := by first | exact .inl rfl | exact .inr rfl | assumption) : wpAny M A (storeName X.env x u) Q E s := by
  obtain ⟨m, hn, hl⟩ := id I.loc
  have Mb : (X.env.scope.kind == .class || (X.env.scope.kind == .module && X.env.locals != X.env.globals)) = false := by rw [I.ok.kind]; rfl
  have FU : i < σ.length := by rw [I.len]; exact (List.getElem?_eq_some_iff.mp hi).1
  have qF := I.qF
  have tracked : ∀ {a : Addr} {h' : Heap}, (∃ o, s.heap.get? a = some o ∧ H a = none) → Heap.SameBut a s.heap h' → cJ X.prog X.w H h' := fun {a h'} ha hs b ob e => by
    obtain ⟨_, _, Dj⟩ := ha
    refine (I.hok b ob e).cp (fun c w' hc q => (hs.2 c ?_).trans q) (fun _ q => q) fun _ _ q => q
    rintro rfl
    rcases hc with rfl | hc
    · rw [Dj] at e; cases e
    · rw [Dj] at hc; cases hc
  rcases hx with hk | hk
  · refine wpAny_storeName_local hk hn (fun h' sP hs => ?_) Mb
    obtain ⟨oL, _, _, yE, _⟩ := id hn
    refine h _ ⟨I.ok, I.os, I.bare, ⟨fun b o e n hb hx => ?_, fun b o e n hb hx => ?_, I.base.free, fun b o e hx => ?_, I.base.tups, I.base.frzs, I.base.tbls⟩, ⟨_, sP, fun j y v' e1 e2 e3 => ?_⟩, fun y c e => ?_, I.free, I.freeC, fun p hp => ?_, tracked ⟨oL, yE, I.free⟩ hs, by simpa using I.len⟩ ⟨_, hs, .inl rfl⟩
    · exact (hs.2 b (Nat.ne_of_lt (Nat.lt_of_lt_of_le (Heap.lt_size e) I.ok.above))).trans (I.base.keep b o e n hb hx)
    · obtain ⟨sl, e1⟩ := I.base.slot b o e n hb hx
      exact ⟨sl, (hs.2 b (Nat.ne_of_lt (Nat.lt_of_lt_of_le (Heap.lt_size e) I.ok.above))).trans e1⟩
    · obtain ⟨o', e1⟩ := I.base.there b o e hx
      exact ⟨o', (hs.2 b (Nat.ne_of_lt (Nat.lt_of_lt_of_le (Heap.lt_size e) I.ok.above))).trans e1⟩
    · by_cases hj : j = i
      · subst hj
        rw [hi] at e1; cases e1
        rw [List.getElem?_set_self FU] at e2
        cases e2
        exact ⟨u, r, .inl ⟨hk, by simp⟩⟩
      · rw [List.getElem?_set_ne (Ne.symm hj)] at e2
        obtain ⟨u', r', q⟩ := hl j y v' e1 e2 e3
        refine ⟨u', r', ?_⟩
        rcases q with ⟨k, e⟩ | ⟨k, c, e, z⟩
        · refine .inl ⟨k, ?_⟩
          have : y ≠ x := fun e => hj (sO hN e1 (e ▸ hi))
          simp [this, e]
        · exact .inr ⟨k, c, e, z.sameBut hs (qF y c e)⟩
    · obtain ⟨w', z⟩ := I.cell y c e
      exact ⟨w', z.sameBut hs (qF y c e)⟩
    · obtain ⟨e, n, ne, nf, d⟩ := I.pin p hp
      exact ⟨(hs.2 p.1 ne).trans e, n, ne, nf, d⟩
  · have FV : X.fn x = true := by
      rcases hf with z | z
      · exact z
      · rw [z] at hk; cases hk
    obtain ⟨c, hc⟩ := I.ok.has x (.inl hk)
    obtain ⟨w', z⟩ := I.cell x c hc
    refine wpAny_storeName_cell I.ok.kind hk hc z (fun h' Ku hs => ?_)
    obtain ⟨oc, Kv, Md⟩ := id z
    refine h { s with heap := h' } ⟨I.ok, I.os, I.bare, ⟨fun b o e n hb hx => ?_, fun b o e n hb hx => ?_, I.base.free, fun b o e hx => ?_, I.base.tups, I.base.frzs, I.base.tbls⟩, ⟨m, hn.sameBut hs (Ne.symm (qF x c hc)), fun j y v' e1 e2 e3 => ?_⟩, fun y c' e => ?_, I.free, I.freeC, fun p hp => ?_, tracked ⟨oc, Kv, I.freeC x c hc⟩ hs, by simpa using I.len⟩ ⟨c, hs, .inr hc⟩
    · exact (hs.2 b (Nat.ne_of_lt (Nat.lt_of_lt_of_le (Heap.lt_size e) (I.ok.cab x c FV hc)))).trans (I.base.keep b o e n hb hx)
    · obtain ⟨sl, e1⟩ := I.base.slot b o e n hb hx
      exact ⟨sl, (hs.2 b (Nat.ne_of_lt (Nat.lt_of_lt_of_le (Heap.lt_size e) (I.ok.cab x c FV hc)))).trans e1⟩
    · obtain ⟨o', e1⟩ := I.base.there b o e hx
      exact ⟨o', (hs.2 b (Nat.ne_of_lt (Nat.lt_of_lt_of_le (Heap.lt_size e) (I.ok.cab x c FV hc)))).trans e1⟩
    · by_cases hj : j = i
      · subst hj
        rw [hi] at e1; cases e1
        rw [List.getElem?_set_self FU] at e2
        cases e2
        exact ⟨u, r, .inr ⟨.inl hk, c, hc, Ku⟩⟩
      · rw [List.getElem?_set_ne (Ne.symm hj)] at e2
        obtain ⟨u', r', q⟩ := hl j y v' e1 e2 e3
        refine ⟨u', r', ?_⟩
        rcases q with q | ⟨k, c', e, z'⟩
        · exact .inl q
        · refine .inr ⟨k, c', e, z'.sameBut hs ?_⟩
          rintro rfl
          exact hj (sO hN e1 (I.ok.inj _ _ _ e hc ▸ hi))
    · by_cases Kw : c' = c
      · subst Kw; exact ⟨_, Ku⟩
      · obtain ⟨w2, z2⟩ := I.cell y c' e
        exact ⟨w2, z2.sameBut hs Kw⟩
    · obtain ⟨e, n, ne, nf, d⟩ := I.pin p hp
      refine ⟨(hs.2 p.1 ?_).trans e, n, ne, nf, d⟩
      intro q
      rw [q, Kv] at e
      have q' : oc = p.2 := Option.some.inj e
      exact d w' (by rw [← q']; exact Md)
theorem sQ {M : Model} {A : Around} {E : Value → Shared → Prop} {i : Nat} {x : Str} {v : V} {u : Value} {Q : Unit → Shared → Prop} (I : Inv X pins σ H s) (hN : X.N.Nodup) (hi : X.N[i]? = some x) (hx : Loc X.env.scope x) (r : RelV v u)
    (h : ∀ s', Inv X pins (σ.set i (some v)) H s' → Q () s') (hf : X.fn x = true ∨ X.env.scope.names.lookup x = some .local := by first | exact .inl rfl | exact .inr rfl | assumption) : wpAny M A (storeName X.env x u) Q E s :=
  store_ok2 I hN hi hx r (fun s' I' _ => h s' I') hf
theorem Inv.oH {s' : Shared} {ch : List Addr} (I : Inv X pins σ H s) (ho : s'.os = s.os) (u : Un (fo X.stack) ch H H' s.heap s'.heap) (hok : cJ X.prog X.w H' s'.heap) (hg : Gn s.gens.size s'.gens)
    (nK : ∀ b ∈ ch, (b ∈ X.ex ∨ X.s₀.heap.objs.size ≤ b) ∧ b ≠ X.env.locals ∧ (∀ x c, X.env.cells.lookup x = some c → c ≠ b) ∧ ∀ p ∈ X.pn ++ pins, p.1 ≠ b) : Inv X pins σ H' s' := by
  obtain ⟨h', g', d', t', o'⟩ := s'
  have e : o' = s.os := ho
  subst e
  exact I.call (g' := g') (t' := t') (d' := d') u hok hg nK
end
noncomputable abbrev XK := Value → Option Addr → Hp → Prop
noncomputable abbrev St := List (Option V)
noncomputable abbrev VK := V → Hp → Prop
noncomputable abbrev TE := St → Hp → VK → Prop
noncomputable abbrev TT := St → Hp → (Bool → Hp → Prop) → Prop
noncomputable abbrev TA := St → Hp → (List V → Hp → Prop) → Prop
structure Ends where
  nx : St → Hp → Prop
  rt : VK
  bk : St → Hp → Prop := fun _ _ => False
  ct : St → Hp → Prop := fun _ _ => False
noncomputable abbrev TS := Ends → St → Hp → Prop
noncomputable def EP (X : Cx) (pins : List (Addr × Obj)) (σ : St) (Q : VK) (u : Value) (s' : Shared) : Prop := ∃ v H', Inv X pins σ H' s' ∧ RelV v u ∧ Q v H'
noncomputable def TP (X : Cx) (pins : List (Addr × Obj)) (σ : St) (Q : Bool → Hp → Prop) (b : Bool) (s' : Shared) : Prop := ∃ H', Inv X pins σ H' s' ∧ Q b H'
noncomputable def AP (X : Cx) (pins : List (Addr × Obj)) (σ : St) (Q : List V → Hp → Prop) (us : List Value) (s' : Shared) : Prop := ∃ vs H', Inv X pins σ H' s' ∧ Vals vs us ∧ Q vs H'
noncomputable def SP (X : Cx) (pins : List (Addr × Obj)) (D : Ends) (f : Flow) (s' : Shared) : Prop :=
  match f with
  | .next => ∃ aC H', Inv X pins aC H' s' ∧ D.nx aC H'
  | .brk => ∃ aC H', Inv X pins aC H' s' ∧ D.bk aC H'
  | .cont => ∃ aC H', Inv X pins aC H' s' ∧ D.ct aC H'
  | .ret u => ∃ v aC H', Inv X pins aC H' s' ∧ RelV v u ∧ D.rt v H'
structure PE (X : Cx) (e : Expr) (t : TE) : Prop where
  run : ∀ (pins : List (Addr × Obj)) (s : Shared) (σ : St) (H : Hp) (Q : VK), Inv X pins σ H s → t σ H Q → wpAny (model X.prog X.w) X.A (eval e X.env) (EP X pins σ Q) X.xe s
instance {X : Cx} {e : Expr} {t : TE} : CoeFun (PE X e t) (fun _ => ∀ (pins : List (Addr × Obj)) (s : Shared) (σ : St) (H : Hp) (Q : VK), Inv X pins σ H s → t σ H Q → wpAny (model X.prog X.w) X.A (eval e X.env) (EP X pins σ Q) X.xe s) := ⟨PE.run⟩
structure PT (X : Cx) (e : Expr) (t : TT) : Prop where
  run : ∀ (pins : List (Addr × Obj)) (s : Shared) (σ : St) (H : Hp) (Q : Bool → Hp → Prop), Inv X pins σ H s → t σ H Q → wpAny (model X.prog X.w) X.A (isTrue e X.env (eval e X.env)) (TP X pins σ Q) X.xe s
instance {X : Cx} {e : Expr} {t : TT} : CoeFun (PT X e t) (fun _ => ∀ (pins : List (Addr × Obj)) (s : Shared) (σ : St) (H : Hp) (Q : Bool → Hp → Prop), Inv X pins σ H s → t σ H Q → wpAny (model X.prog X.w) X.A (isTrue e X.env (eval e X.env)) (TP X pins σ Q) X.xe s) := ⟨PT.run⟩
noncomputable def PW (X : Cx) (e : Expr) (t : TT) : Prop :=
  ∀ (whole : Sem Value) (pins : List (Addr × Obj)) (s : Shared) (σ : St) (H : Hp) (Q : Bool → Hp → Prop), Inv X pins σ H s → t σ H Q → wpAny (model X.prog X.w) X.A (isTrue e X.env whole) (TP X pins σ Q) X.xe s
theorem PW.pt {X : Cx} {e : Expr} {t : TT} (h : PW X e t) : PT X e t := ⟨h _⟩
structure PA (X : Cx) (es : List Expr) (t : TA) : Prop where
  run : ∀ (pos : Pos) (pins : List (Addr × Obj)) (s : Shared) (σ : St) (H : Hp) (Q : List V → Hp → Prop), Inv X pins σ H s → t σ H Q → wpAny (model X.prog X.w) X.A (spliced (backTo pos (starEach es X.env))) (AP X pins σ Q) X.xe s
instance {X : Cx} {es : List Expr} {t : TA} : CoeFun (PA X es t) (fun _ => ∀ (pos : Pos) (pins : List (Addr × Obj)) (s : Shared) (σ : St) (H : Hp) (Q : List V → Hp → Prop), Inv X pins σ H s → t σ H Q → wpAny (model X.prog X.w) X.A (spliced (backTo pos (starEach es X.env))) (AP X pins σ Q) X.xe s) := ⟨PA.run⟩
structure PS (X : Cx) (st : Stmt) (t : TS) : Prop where
  run : ∀ (pins : List (Addr × Obj)) (s : Shared) (σ : St) (H : Hp) (D : Ends), Inv X pins σ H s → t D σ H → wpAny (model X.prog X.w) X.A (exec st X.env) (SP X pins D) X.xe s
instance {X : Cx} {st : Stmt} {t : TS} : CoeFun (PS X st t) (fun _ => ∀ (pins : List (Addr × Obj)) (s : Shared) (σ : St) (H : Hp) (D : Ends), Inv X pins σ H s → t D σ H → wpAny (model X.prog X.w) X.A (exec st X.env) (SP X pins D) X.xe s) := ⟨PS.run⟩
structure d6 (X : Cx) (st : List Stmt) (t : TS) : Prop where
  run : ∀ (pins : List (Addr × Obj)) (s : Shared) (σ : St) (H : Hp) (D : Ends), Inv X pins σ H s → t D σ H → wpAny (model X.prog X.w) X.A (execs st X.env) (SP X pins D) X.xe s
instance {X : Cx} {st : List Stmt} {t : TS} : CoeFun (d6 X st t) (fun _ => ∀ (pins : List (Addr × Obj)) (s : Shared) (σ : St) (H : Hp) (D : Ends), Inv X pins σ H s → t D σ H → wpAny (model X.prog X.w) X.A (execs st X.env) (SP X pins D) X.xe s) := ⟨d6.run⟩
theorem thn {α : Type} {t : Sem α} {Q Q' : α → Shared → Prop} {M : Model} {A : Around} {E : Value → Shared → Prop} {s : Shared} (h : wpAny M A t Q E s) (hQ : ∀ a s, Q a s → Q' a s) : wpAny M A t Q' E s := wpAny_mono h hQ fun _ _ x => x
section
variable {X : Cx}
theorem bin {a b : Expr} {ta tb : TE} (ha : PE X a ta) (hb : PE X b tb) {pins : List (Addr × Obj)} {s : Shared} {σ : St} {H : Hp} {R : V → V → Hp → Prop} (I : Inv X pins σ H s) (h : ta σ H fun x H1 => tb σ H1 fun y H2 => R x y H2)
    {α : Type} {Q : α → Shared → Prop} {f : Value → Value → Sem α}
    (hf : ∀ v u s2 x y H2, Inv X pins σ H2 s2 → RelV x v → RelV y u → R x y H2 → wpAny (model X.prog X.w) X.A (f v u) Q X.xe s2) :
    wpAny (model X.prog X.w) X.A (eval a X.env) (fun v au => wpAny (model X.prog X.w) X.A (eval b X.env) (fun u fW => wpAny (model X.prog X.w) X.A (f v u) Q X.xe fW) X.xe au) X.xe s := by
  refine thn (ha pins s σ H _ I h) fun v s1 ⟨x, H1, I1, r1, q1⟩ => ?_
  refine thn (hb pins s1 σ H1 _ I1 q1) fun u s2 ⟨y, H2, I2, r2, q2⟩ => ?_
  exact hf v u s2 x y H2 I2 r1 r2 q2
noncomputable def FW (i : Nat) : TE := fun σ H Q => ∃ v, σ[i]? = some (some v) ∧ Q v H
noncomputable def tC (v : V) : TE := fun _ H Q => Q v H
theorem yF {i : Nat} {x : Str} {pos : Pos} (hN : X.N[i]? = some x) (hv : sN X.env.scope x) (hd : (x == ("__debug__" : Str)) = false := by decide) (fD : (x == ("__classdict__" : Str)) = false := by decide) : PE X (.Name x pos) (FW i) := by
  refine ⟨?_⟩
  intro pins s σ H Q I h
  obtain ⟨v, e, h⟩ := h
  obtain ⟨m, hn, hl⟩ := I.loc
  obtain ⟨u, r, l⟩ := hl i x v hN e hv
  have fin : EP X pins σ Q u s := ⟨v, H, I, r, h⟩
  rcases l with ⟨hk, hm⟩ | ⟨hk, c, hc, sq⟩
  · exact wpAny_Name (wpAny_loadName_local I.ok.kind hk hn hm fin) hd
  · rcases hk with hk | hk
    · exact wpAny_Name (wpAny_loadName_cell I.ok.kind hk hc sq fin) hd
    · exact wpAny_Name (wpAny_loadName_free I.ok.kind hk hc sq fin fD) hd
theorem aA {i j pos} : PE X (.Constant (.int i) j pos) (tC (.int i)) := ⟨fun _ _ _ H _ I h => wpAny_Constant_int ⟨.int i, H, I.tok _, ⟨_, rfl⟩, h⟩⟩
theorem Jk {b j pos} : PE X (.Constant (.bool b) j pos) (tC (.bl b)) := ⟨fun _ _ _ H _ I h => Constant_bool ⟨.bl b, H, I, rfl, h⟩⟩
theorem FX {j pos} : PE X (.Constant .none j pos) (tC .aq) := ⟨fun _ _ _ H _ I h => Constant_none ⟨.aq, H, I, rfl, h⟩⟩
theorem FY {x j pos} : PE X (.Constant (.str x) j pos) (tC (.str x)) := ⟨fun _ _ _ H _ I h => Calls.Constant_str ⟨.str x, H, I.tok _, ⟨_, rfl⟩, h⟩⟩
noncomputable def Gl (X : Cx) (x : Str) : Prop := X.env.kindOf x = some .globalImplicit
theorem nu {E : Value → Shared → Prop} {pins : List (Addr × Obj)} {s : Shared} {σ : St} {H : Hp} {x : Str} {u : Value} {pos : Pos} {Q : Value → Shared → Prop} (I : Inv X pins σ H s) (hg : Gl X x) (hm : X.mg x = some u) (h : Q u s)
    (hd : (x == ("__debug__" : Str)) = false := by decide) : wpAny (model X.prog X.w) X.A (eval (.Name x pos) X.env) Q E s :=
  Calls.Name_function_global I.ok.kind hg (Calls.loadGlobal_global (by rw [I.ok.glob]; exact I.mod.glob.keeps I.bk) hm h) hd
theorem fE {E : Value → Shared → Prop} {pins : List (Addr × Obj)} {s : Shared} {σ : St} {H : Hp} {x : Str} {u : Value} {pos : Pos} {Q : Value → Shared → Prop} (I : Inv X pins σ H s) (hg : Gl X x) (hm : X.mg x = none) (hv : bootBuiltins x = some u) (h : Q u s)
    (hn : x ≠ "__name__" := by decide) (hd : (x == ("__debug__" : Str)) = false := by decide) : wpAny (model X.prog X.w) X.A (eval (.Name x pos) X.env) Q E s := by
  obtain ⟨mb, h1, h2⟩ := I.mod.blt
  exact Calls.Name_function_global I.ok.kind hg (Calls.loadGlobal_builtin (by rw [I.ok.glob]; exact I.mod.glob.keeps I.bk) hm (by rw [I.ok.blt]; exact h1.keeps I.bk) ((h2 x hn).trans hv) h) hd
theorem pX {x : Str} {v : V} {u : Value} {pos : Pos} (hg : Gl X x) (hm : X.mg x = some u) (r : RelV v u) (hd : (x == ("__debug__" : Str)) = false := by decide) : PE X (.Name x pos) (tC v) := ⟨fun _ _ _ H _ I h => nu I hg hm ⟨v, H, I, r, h⟩ hd⟩
theorem Ef {x : Str} {v : V} {u : Value} {pos : Pos} (hg : Gl X x) (hm : X.mg x = none) (hv : bootBuiltins x = some u) (r : RelV v u) (hn : x ≠ "__name__" := by decide) (hd : (x == ("__debug__" : Str)) = false := by decide) : PE X (.Name x pos) (tC v) := ⟨fun _ _ _ H _ I h => fE I hg hm hv ⟨v, H, I, r, h⟩ hn hd⟩
variable {a b : Expr} {ta tb : TE} {pos : Pos}
noncomputable def PC (X : Cx) (op : CmpOp) (a b : Expr) (t : TE) : Prop :=
  ∀ (pins : List (Addr × Obj)) (s : Shared) (σ : St) (H : Hp) (Q : VK), Inv X pins σ H s → t σ H Q →
    wpAny (model X.prog X.w) X.A (eval a X.env) (fun v au => wpAny (model X.prog X.w) X.A (eval b X.env) (fun u fW => wpAny (model X.prog X.w) X.A (compareOp op v u) (EP X pins σ Q) X.xe fW) X.xe au) X.xe s
theorem Bh (b : Expr) {op : CmpOp} (h : op ≠ .In) (h2 : op ≠ .NotIn) : behindInMarks op b = false := by
  have e1 : (op == CmpOp.In) = false := by cases op <;> first | rfl | exact absurd rfl h
  have e2 : (op == CmpOp.NotIn) = false := by cases op <;> first | rfl | exact absurd rfl h2
  cases b <;> simp [behindInMarks, e1, e2]
noncomputable def tB (t : TE) : TT := fun σ H Q => t σ H fun x H1 => ∃ c, x = .bl c ∧ Q c H1
theorem NB {op : CmpOp} {t : TE} (h : PC X op a b t) (h1 : behindInMarks op b = false := by first | exact Bh _ (by decide) (by decide) | rfl) : PT X (.Compare a [op] [b] pos) (tB t) := by
  refine ⟨?_⟩
  intro pins s σ H Q I hw
  refine wpAny_isTrue_Compare1 (thn (h pins s σ H _ I hw) fun v s1 h1 => thn h1 fun u s2 h2 => thn h2 fun c s3 ⟨x, H1, I1, r1, q1⟩ => ?_) h1
  obtain ⟨d, rfl, q⟩ := q1
  cases r1
  exact wpAny_truthy_bool ⟨H1, I1, q⟩
theorem FZ {e : Expr} {t : TE} (h : PE X e t) (he : ∀ whole, isTrue e X.env whole = (do let v ← whole; standAt e.pos; holding [v] (truthy v)) := by intro _; rfl) : PT X e (tB t) := by
  refine ⟨?_⟩
  intro pins s σ H Q I hw
  refine isTrue_plain (thn (h pins s σ H _ I hw) fun v s1 ⟨x, H1, I1, r1, q1⟩ => ?_) (he _)
  obtain ⟨d, rfl, q⟩ := q1
  cases r1
  exact wpAny_truthy_bool ⟨H1, I1, q⟩
variable {tA yG : TT} {rest : List Expr}
noncomputable def NC (t u : TT) : TT := fun σ H Q => t σ H fun c H1 => if c = true then Q true H1 else u σ H1 Q
noncomputable def Mf (t : TT) : TT := fun σ H Q => t σ H fun c H1 => Q (!c) H1
theorem F0 (ha : PT X a tA) : PW X (.BoolOp .Or [a] pos) tA := by
  intro wh pins s σ H Q I h
  refine isTrue_or (thn (ha pins s σ H Q I h) fun c s1 e => ?_)
  cases c with
  | false => exact isTrue_or_nil e
  | true => exact e
theorem Jl (ha : PT X a tA) (hb : PW X (.BoolOp .Or (b :: rest) pos) yG) : PW X (.BoolOp .Or (a :: b :: rest) pos) (NC tA yG) := by
  intro wh pins s σ H Q I h
  refine isTrue_or (thn (ha pins s σ H _ I h) fun c s1 ⟨H1, I1, q1⟩ => ?_)
  cases c with
  | true => exact ⟨H1, I1, q1⟩
  | false => exact hb wh pins s1 σ H1 Q I1 q1
theorem F1 (ha : PT X a tA) : PT X (.UnaryOp .Not a pos) (Mf tA) := by
  refine ⟨?_⟩
  intro pins s σ H Q I h
  exact isTrue_not (ha pins s σ H (fun c H1 => Q (!c) H1) I h)
noncomputable def Jm (ta tb : TE) : TE := fun σ H Q => ta σ H fun x H1 => ∃ c, x = .bl c ∧ if c = true then tb σ H1 Q else Q (.bl false) H1
noncomputable def Jn (ta : TE) : TE := fun σ H Q => ta σ H fun x H1 => ∃ c, x = .bl c ∧ Q (.bl (!c)) H1
theorem F2 {op} {t : TE} (h : PE X a t) : PE X (.BoolOp op [a] pos) t := ⟨fun pins s σ H Q I hw => BoolOp_one (h pins s σ H Q I hw)⟩
theorem F3 (ha : PE X a ta) (hb : PE X (.BoolOp .And (b :: rest) pos) tb) : PE X (.BoolOp .And (a :: b :: rest) pos) (Jm ta tb) := by
  refine ⟨?_⟩
  intro pins s σ H Q I h
  refine BoolOp_and (thn (ha pins s σ H _ I h) fun v s1 ⟨x, H1, I1, r1, q1⟩ => ?_)
  obtain ⟨c, rfl, q1⟩ := q1
  cases r1
  refine wpAny_truthy_bool ?_
  cases c with
  | true => exact hb pins s1 σ H1 Q I1 q1
  | false => exact ⟨.bl false, H1, I1, rfl, q1⟩
theorem F4 (ha : PE X a ta) : PE X (.UnaryOp .Not a pos) (Jn ta) := by
  refine ⟨?_⟩
  intro pins s σ H Q I h
  refine UnaryOp_ (thn (ha pins s σ H _ I h) fun v s1 ⟨x, H1, I1, r1, q1⟩ => ?_)
  obtain ⟨c, rfl, q1⟩ := q1
  cases r1
  exact not_of (wpAny_truthy_bool ⟨.bl (!c), H1, I1, rfl, q1⟩)
end
noncomputable def a8 (K : PySem.W.Frag) (H : Hp) (a : Addr) (xs : List V) : Prop :=
  Rd H a (.lst xs) ∨
    ∃ (o : Obj) (its : Array Value) (n : Nat), K.lookup a = some o ∧ o.cls = .type "list" ∧ o.dict = none ∧ o.data = .seq its n ∧ its.size ≤ sizeLine ∧ Vals xs its.toList
noncomputable def cB (K : PySem.W.Frag) (H : Hp) (a : Addr) (xs : List V) : Prop :=
  Rd H a (.tup xs) ∨
    ∃ (o : Obj) (its : Array Value) (n : Nat), K.lookup a = some o ∧ o.cls = .type "tuple" ∧ o.data = .seq its n ∧ its.size ≤ sizeLine ∧ Vals xs its.toList
noncomputable def Mg : Value → Option V
  | .none => some .aq
  | .bool b => some (.bl b)
  | .int i _ => some (.int i)
  | .str x _ => some (.str x)
  | .bytes b _ => some (.iY b)
  | .float b _ => some (.vM b)
  | .ref a => some (.ref a)
  | .type n => some (.ty n)
  | _ => none
theorem RelV.abs {x : V} {u : Value} (r : RelV x u) : Mg u = some x := by
  cases x with
  | aq => cases r; rfl
  | bl _ => cases r; rfl
  | int _ => obtain ⟨t, rfl⟩ := r; rfl
  | str _ => obtain ⟨t, rfl⟩ := r; rfl
  | iY _ => obtain ⟨t, rfl⟩ := r; rfl
  | vM _ => obtain ⟨t, rfl⟩ := r; rfl
  | ref _ => cases r; rfl
  | ty _ => cases r; rfl
theorem RelV.inj {x y : V} {u : Value} (r : RelV x u) (q : RelV y u) : x = y := Option.some.inj (r.abs.symm.trans q.abs)
theorem Vals.inj : ∀ {xs ys : List V} {us : List Value}, Vals xs us → Vals ys us → xs = ys
  | _, _, _, .nil, .nil => rfl
  | _, _, _, .cons r t, .cons r' t' => by rw [r.inj r', Vals.inj t t']
section
variable {X : Cx} {pins : List (Addr × Obj)} {σ : St} {H : Hp} {s : Shared} {a : Addr} {xs ys : List V}
theorem a8.of {K : PySem.W.Frag} (h : H a = some (.lst xs)) : a8 K H a xs := .inl (.inl h)
theorem cB.of {K : PySem.W.Frag} (h : H a = some (.tup xs)) : cB K H a xs := .inl (.inl h)
theorem Inv.list (I : Inv X pins σ H s) (h : a8 X.K H a xs) : ∃ its : List Value, Vals xs its ∧ PlainL s.heap a its.toArray ∧ xs.length ≤ sizeLine := by
  rcases h with h | ⟨o, its, n, hk, hc, hd, hs, hz, r⟩
  · obtain ⟨z, its, n, r, e⟩ := h.ok I.hok
    exact ⟨its, r, ⟨_, n, e, rfl, rfl, rfl⟩, z⟩
  · refine ⟨its.toList, r, ⟨o, n, I.fA a o hk, hc, hd, by simpa using hs⟩, ?_⟩
    have e := r.length
    simp only [Array.length_toList] at e
    omega
theorem Inv.tuple (I : Inv X pins σ H s) (h : cB X.K H a xs) : ∃ its : List Value, Vals xs its ∧ IsTup s.heap a its.toArray ∧ xs.length ≤ sizeLine := by
  rcases h with h | ⟨o, its, n, hk, hc, hs, hz, r⟩
  · obtain ⟨z, its, r, p⟩ := h.ok I.hok
    exact ⟨its, r, ir.tup p, z⟩
  · refine ⟨its.toList, r, ⟨o, I.fA a o hk, hc, n, by simpa using hs⟩, ?_⟩
    have e := r.length
    simp only [Array.length_toList] at e
    omega
theorem Inv.Bi (I : Inv X pins σ H s) (h : a8 X.K H a xs) (h' : a8 X.K H a ys) : xs = ys := by
  obtain ⟨its, r, ⟨o, n, e, _, _, d⟩, _⟩ := I.list h
  obtain ⟨its', r', ⟨o', n', e', _, _, d'⟩, _⟩ := I.list h'
  rw [e] at e'; cases e'
  rw [d] at d'
  injection d' with d1 _
  have : its = its' := by simpa using congrArg Array.toList d1
  subst this
  exact r.inj r'
theorem Inv.yH (I : Inv X pins σ H s) (h : cB X.K H a xs) (h' : cB X.K H a ys) : xs = ys := by
  obtain ⟨its, r, ⟨o, e, _, n, d⟩, _⟩ := I.tuple h
  obtain ⟨its', r', ⟨o', e', _, n', d'⟩, _⟩ := I.tuple h'
  rw [e] at e'; cases e'
  rw [d] at d'
  injection d' with d1 _
  have : its = its' := by simpa using congrArg Array.toList d1
  subst this
  exact r.inj r'
end
noncomputable abbrev Cx.i6 (X : Cx) (E : Value → Shared → Prop) : Cx := { X with xe := E }
noncomputable abbrev Cx.nM (X : Cx) : Cx := X.i6 fun _ _ => False
theorem Cx.Ok.i6 {X : Cx} (ok : X.Ok) (E : Value → Shared → Prop) : (X.i6 E).Ok :=
  ⟨ok.mod, ok.kind, ok.glob, ok.blt, ok.above, ok.inj, ok.has, ok.cab, ok.hd, ok.frames, ok.stk, ok.exf, ok.bs, ok.bsz, ok.noex, ok.exfs, ok.funs, ok.frf⟩
theorem Cx.Ok.gr {X : Cx} {E : Value → Shared → Prop} (ok : (X.i6 E).Ok) : X.Ok :=
  ⟨ok.mod, ok.kind, ok.glob, ok.blt, ok.above, ok.inj, ok.has, ok.cab, ok.hd, ok.frames, ok.stk, ok.exf, ok.bs, ok.bsz, ok.noex, ok.exfs, ok.funs, ok.frf⟩
section
variable {X : Cx} {pins : List (Addr × Obj)} {σ : St} {H : Hp} {s : Shared} {E : Value → Shared → Prop}
theorem Inv.i6 (I : Inv X pins σ H s) (E : Value → Shared → Prop) : Inv (X.i6 E) pins σ H s := ⟨I.ok.i6 E, I.os, I.bare, I.base, I.loc, I.cell, I.free, I.freeC, I.pin, I.hok, I.len⟩
theorem Inv.gr (I : Inv (X.i6 E) pins σ H s) : Inv X pins σ H s := ⟨I.ok.gr, I.os, I.bare, I.base, I.loc, I.cell, I.free, I.freeC, I.pin, I.hok, I.len⟩
theorem SP.gr {D : Ends} {f : Flow} {s' : Shared} (h : SP (X.i6 E) pins D f s') : SP X pins D f s' := by
  cases f with
  | next => obtain ⟨aC, H', I, q⟩ := h; exact ⟨aC, H', I.gr, q⟩
  | brk => obtain ⟨aC, H', I, q⟩ := h; exact ⟨aC, H', I.gr, q⟩
  | cont => obtain ⟨aC, H', I, q⟩ := h; exact ⟨aC, H', I.gr, q⟩
  | ret u => obtain ⟨v, aC, H', I, r, q⟩ := h; exact ⟨v, aC, H', I.gr, r, q⟩
theorem d6.nM {st : List Stmt} {t : TS} (h : d6 X.nM st t) : d6 X st t := ⟨fun pins s σ H D I hw =>
  wpAny_mono (h pins s σ H D (I.i6 _) hw) (fun _ _ q => q.gr) fun _ _ z => False.elim z⟩
end
section
variable {X : Cx} {st : Stmt} {rest : List Stmt} {t u : TS} {e : Expr} {te : TE} {pos : Pos}
noncomputable def Jo : TS := fun D σ H => D.nx σ H
noncomputable def F5 (t u : TS) : TS := fun D σ H => t { D with nx := u D } σ H
theorem pss_nil : d6 X [] Jo := ⟨fun _ _ σ H _ I h => wpAny_execs_nil ⟨σ, H, I, h⟩⟩
theorem cE (h1 : PS X st t) (h2 : d6 X rest u) : d6 X (st :: rest) (F5 t u) := by
  refine ⟨?_⟩
  intro pins s σ H D I h
  refine wpAny_execs_cons (thn (h1 pins s σ H { D with nx := u D } I h) fun f s1 q => ?_)
  cases f with
  | next =>
    obtain ⟨aC, H', I', q⟩ := q
    exact h2 pins s1 aC H' D I' q
  | ret v => exact q
  | brk => exact q
  | cont => exact q
theorem cg (h1 : PS X st t) : d6 X [st] t := by
  refine ⟨?_⟩
  intro pins s σ H D I h
  refine wpAny_execs_cons (thn (h1 pins s σ H D I h) fun f s1 q => ?_)
  cases f with
  | next => exact wpAny_execs_nil q
  | ret v => exact q
  | brk => exact q
  | cont => exact q
theorem Inv.quiet {pins : List (Addr × Obj)} {σ : St} {H : Hp} {s : Shared} (I : Inv X pins σ H s) : interactive X.env = false := by simp [interactive, I.ok.kind]
noncomputable def Jp (te : TE) : TS := fun D σ H => te σ H fun _ H1 => D.nx σ H1
theorem pY (he : PE X e te) (hs : swapsWith e none pos.line X.env = pure false := by rfl) : PS X (.Expr e pos) (Jp te) := by
  refine ⟨?_⟩
  intro pins s σ H D I h
  exact wpAny_Expr_any (thn (he pins s σ H _ I h) fun v s1 ⟨x, H1, I1, r1, q1⟩ => ⟨σ, H1, I1, q1⟩) I.quiet hs
noncomputable def Mi (te : TE) : TS := fun D σ H => te σ H D.rt
theorem i7 (he : PE X e te) : PS X (.Return (some e) pos) (Mi te) := by
  refine ⟨?_⟩
  intro pins s σ H D I h
  exact wpAny_Return_some (thn (he pins s σ H _ I h) fun v s1 ⟨x, H1, I1, r1, q1⟩ => ⟨x, σ, H1, I1, r1, q1⟩)
noncomputable def Mj (c : TT) (t u : TS) : TS := fun D σ H => c σ H fun b H1 => if b = true then t D σ H1 else u D σ H1
theorem kG {c : Expr} {a b : List Stmt} {tc : TT} (hc : PT X c tc) (ha : d6 X a t) (hb : d6 X b u) : PS X (.If c a b pos) (Mj tc t u) := by
  refine ⟨?_⟩
  intro pins s σ H D I h
  refine wpAny_If (thn (hc pins s σ H _ I h) fun d s1 ⟨H1, I1, q1⟩ => ?_)
  cases d with
  | true => exact ha pins s1 σ H1 D I1 q1
  | false => exact hb pins s1 σ H1 D I1 q1
end
noncomputable abbrev TG := V → St → Hp → (St → Hp → Prop) → Prop
noncomputable def PG (X : Cx) (target : Expr) (t : TG) : Prop :=
  ∀ (pins : List (Addr × Obj)) (s : Shared) (σ : St) (H : Hp) (v : V) (u : Value) (Q : St → Hp → Prop), Inv X pins σ H s → RelV v u → t v σ H Q →
    wpAny (model X.prog X.w) X.A (assign target X.env u) (fun _ s' => ∃ aC H', Inv X pins aC H' s' ∧ Q aC H') X.xe s
noncomputable abbrev Bj := V → V → V → Hp → (Hp → Prop) → Prop
noncomputable def F6 (X : Cx) (t : Bj) : Prop :=
  ∀ (pins : List (Addr × Obj)) (s : Shared) (σ : St) (H : Hp) (o i v : V) (ov iv u : Value) (Q : Hp → Prop), Inv X pins σ H s → RelV o ov → RelV i iv → RelV v u → t o i v H Q →
    wpAny (model X.prog X.w) X.A (setItem ov iv u) (fun _ s' => ∃ H', Inv X pins σ H' s' ∧ Q H') X.xe s
section
variable {X : Cx} {pos : Pos}
noncomputable def iJ (i : Nat) : TG := fun v σ H Q => Q (σ.set i (some v)) H
theorem dE {i : Nat} {x : Str} (hN : X.N.Nodup) (hi : X.N[i]? = some x) (hx : Loc X.env.scope x) (hf : X.fn x = true ∨ X.env.scope.names.lookup x = some .local := by first | exact .inl rfl | exact .inr rfl | assumption) : PG X (.Name x pos) (iJ i) := by
  intro pins s σ H v u Q I r h
  exact wpAny_assign_Name (sQ I hN hi hx r (fun s' I' => ⟨_, H, I', h⟩) hf)
noncomputable def Mk (to ti : TE) (t : Bj) : TG := fun v σ H Q => to σ H fun o H1 => ti σ H1 fun i H2 => t o i v H2 fun H3 => Q σ H3
theorem lQ {o i : Expr} {to ti : TE} {t : Bj} (ho : PE X o to) (hi : PE X i ti) (hs : F6 X t)
    (ha : ∀ v, assign (.Subscript o i pos) X.env v = (do
      let ov ← holding [v] (eval o X.env)
      let iv ← holding [v, ov] (eval i X.env)
      standAt pos
      holding [v, ov, iv] (setItem ov iv v)
      release [v, ov, iv] []) := by intro _; rfl) : PG X (.Subscript o i pos) (Mk to ti t) := by
  intro pins s σ H v u Q I r h
  rw [ha]
  refine wpAny_bind (wpAny_holding (thn (ho pins s σ H _ I h) fun ov s1 ⟨x, H1, I1, r1, q1⟩ => ?_))
  refine wpAny_bind (wpAny_holding (thn (hi pins s1 σ H1 _ I1 q1) fun iv s2 ⟨y, H2, I2, r2, q2⟩ => ?_))
  refine wpAny_bind (wpAny_standAt (wpAny_bind (wpAny_holding (thn (hs pins s2 σ H2 x y v ov iv u _ I2 r1 r2 r q2) fun _ s3 ⟨H3, I3, q3⟩ => ?_))))
  exact wpAny_release ⟨σ, H3, I3, q3⟩
noncomputable def wO (te : TE) (g : TG) : TS := fun D σ H => te σ H fun x H1 => g x σ H1 D.nx
theorem lR {tg e : Expr} {te : TE} {g : TG} (he : PE X e te) (hg : PG X tg g) (hs : swapsWithSole [tg] e pos.line X.env = pure false := by rfl) (hw : swappedStores [tg] e X.env = pure none := by rfl)
    (h1 : (assignEach [tg] X.env).map (·.2) = [assign tg X.env] := by rfl) : PS X (.Assign [tg] e pos) (wO te g) := by
  refine ⟨?_⟩
  intro pins s σ H D I h
  refine wpAny_Assign_stores (thn (he pins s σ H _ I h) fun v s1 ⟨x, H1, I1, r1, q1⟩ => ?_) hs hw
  rw [h1]
  exact thn (hg pins s1 σ H1 x v _ I1 r1 q1) fun _ s2 q => q
theorem bT {i : Nat} {x : Str} {e : Expr} {te : TE} {pos' : Pos} (hN : X.N.Nodup) (hi : X.N[i]? = some x) (hx : Loc X.env.scope x) (he : PE X e te) (hs : swapsWith e (some (.Name x pos')) pos.line X.env = pure false := by rfl) (hf : X.fn x = true ∨ X.env.scope.names.lookup x = some .local := by first | exact .inl rfl | exact .inr rfl | assumption) :
    PS X (.Assign [.Name x pos'] e pos) (wO te (iJ i)) := by
  refine ⟨?_⟩
  intro pins s σ H D I h
  refine wpAny_Assign_Name (thn (he pins s σ H _ I h) fun v s1 ⟨y, H1, I1, r1, q1⟩ => ?_) hs
  exact sQ I1 hN hi hx r1 (fun s2 I2 => ⟨_, H1, I2, q1⟩) hf
end
section
variable {X : Cx} {pos : Pos}
noncomputable def sR (c : TT) (tb : TS) : TS := fun D σ H => ∃ W : Nat → St → Hp → Prop, (∃ m, W m σ H) ∧ ∀ m σ H, W m σ H →
  c σ H fun b H1 => if b = true then ∃ N : St → Hp → Prop, (∀ aC H', N aC H' → ∃ m', m' < m ∧ W m' aC H') ∧ tb { D with nx := N, ct := N, bk := D.nx } σ H1 else D.nx σ H1
theorem sS {c : Expr} {body : List Stmt} {tc : TT} {tb : TS} (hp : PassesOwn (model X.prog X.w) X.A X.env X.xe) (hc : PT X c tc) (hb : d6 X body tb) : PS X (.While c body [] pos) (sR tc tb) := by
  refine ⟨?_⟩
  intro pins s σ H D I h
  obtain ⟨W, ⟨m0, w0⟩, turn⟩ := h
  refine wpAny_While (codeAny_whileLoop (fun n s' => ∃ aC H', Inv X pins aC H' s' ∧ W n aC H') ?_ m0 ⟨σ, H, I, w0⟩)
  rintro n s1 ⟨qG, H1, I1, w1⟩
  refine wpAny_passesOwn hp (thn (hc pins s1 qG H1 _ I1 (turn n qG H1 w1)) fun b s2 ⟨H2, I2, q2⟩ => ?_)
  cases b with
  | true =>
    obtain ⟨N, hN, q2⟩ := q2
    rw [if_pos rfl]
    refine wpAny_passesOwn hp (thn (hb pins s2 qG H2 _ I2 q2) fun f s3 q3 => ?_)
    cases f with
    | next =>
      obtain ⟨lz, H3, I3, n3⟩ := q3
      obtain ⟨m', hm, w3⟩ := hN lz H3 n3
      exact ⟨m', hm, lz, H3, I3, w3⟩
    | cont =>
      obtain ⟨lz, H3, I3, n3⟩ := q3
      obtain ⟨m', hm, w3⟩ := hN lz H3 n3
      exact ⟨m', hm, lz, H3, I3, w3⟩
    | brk => exact q3
    | ret v => exact q3
  | false =>
    rw [if_neg Bool.false_ne_true]
    exact wpAny_execs_nil ⟨qG, H2, I2, q2⟩
end
structure It where
  go : Nat → Hp → Prop
  yld : Nat → Hp → V → Hp → Prop
  stop : Nat → Hp → Prop
noncomputable def dR (X : Cx) (pins : List (Addr × Obj)) (H : Hp) (b : Addr) : Prop :=
  H b = none ∧ b ≠ X.env.locals ∧ b ∉ X.fs ∧ (b ∈ X.ex ∨ X.s₀.heap.objs.size ≤ b) ∧ (∀ x c, X.env.cells.lookup x = some c → c ≠ b) ∧ ∀ p ∈ X.pn ++ pins, p.1 ≠ b
theorem Inv.pZ {X : Cx} {pins : List (Addr × Obj)} {σ : St} {H H' : Hp} {s : Shared} {b : Addr} (I : Inv X pins σ H s) (hb : s.heap.objs.size ≤ b) (hn : H' b = none) : dR X pins H' b := by
  refine ⟨hn, Nat.ne_of_gt (Nat.lt_of_lt_of_le I.lt hb), I.FR hb, .inr (Nat.le_trans I.sz hb), fun x c e z => ?_, fun p hp z => ?_⟩
  · obtain ⟨v, q⟩ := I.cell x c e
    exact absurd (Nat.lt_of_lt_of_le q.lt (by rw [z]; exact hb)) (Nat.lt_irrefl _)
  · exact absurd (Nat.lt_of_lt_of_le (Heap.lt_size (I.pin p hp).1) (by rw [z]; exact hb)) (Nat.lt_irrefl _)
structure Turn (P : Program) (w : World) (K : PySem.W.Frag) (tg : Expr) (J : It) (fp : List Addr) (it : Addr) (tn : Nat → Heap → Prop) : Prop where
  mem : it ∈ fp
  obj : ∀ i h, tn i h → ∀ b ∈ fp, ∃ o, h.get? b = some o ∧ ∀ v, o.data ≠ .cell v
  keep : ∀ i h h', tn i h → (∀ b ∈ fp, ∀ o, h.get? b = some o → h'.get? b = some o) → tn i h'
  item : ∀ (X : Cx), X.prog = P → X.w = w → X.K = K → X.calm = true → ∀ (i : Nat) (pins : List (Addr × Obj)) (s : Shared) (σ : St) (H : Hp) (E : Value → Shared → Prop), Inv X pins σ H s → (∀ b ∈ fp, dR X pins H b) → tn i s.heap → J.go i H →
    wpAny (model P w) X.A (pyNext (.ref it)) (fun r s1 => ∃ u, r = some u ∧
      wpAny (model P w) X.A (letOwnedTupleGo tg (.ref it) u) (fun _ s2 => ∃ x H', Inv X pins σ H' s2 ∧ RelV x u ∧ J.yld i H x H' ∧ tn (i + 1) s2.heap ∧ ∀ b ∈ fp, H' b = none) E s1) E s
  done : ∀ (X : Cx), X.prog = P → X.w = w → X.K = K → X.calm = true → ∀ (i : Nat) (pins : List (Addr × Obj)) (s : Shared) (σ : St) (H : Hp) (E : Value → Shared → Prop), Inv X pins σ H s → (∀ b ∈ fp, dR X pins H b) → tn i s.heap → J.stop i H →
    wpAny (model P w) X.A (pyNext (.ref it)) (fun r s1 => r = none ∧ Inv X pins σ H s1) E s
  self : ∀ (A : Around) (i : Nat) (s : Shared) (Q : Value → Shared → Prop) (E : Value → Shared → Prop), tn i s.heap → Q (.ref it) s → wpAny (model P w) A (pyIter (.ref it)) Q E s
noncomputable abbrev TI := St → Hp → (It → Hp → Prop) → Prop
noncomputable def F7 (X : Cx) (pins : List (Addr × Obj)) (σ : St) (tg : Expr) (R : It → Hp → Prop) (vP : Value) (s2 : Shared) : Prop :=
  ∃ (it : Addr) (fp : List Addr) (tn : Nat → Heap → Prop) (J : It) (H' : Hp), vP = .ref it ∧ Inv X pins σ H' s2 ∧ Turn X.prog X.w X.K tg J fp it tn ∧ tn 0 s2.heap ∧ (∀ b ∈ fp, dR X pins H' b) ∧ R J H'
noncomputable def PI (X : Cx) (tg iter : Expr) (wi : TI) : Prop :=
  ∀ (pins : List (Addr × Obj)) (s : Shared) (σ : St) (H : Hp) (R : It → Hp → Prop), Inv X pins σ H s → wi σ H R →
    wpAny (model X.prog X.w) X.A (eval iter X.env) (fun v s1 => wpAny (model X.prog X.w) X.A (pyIter v) (F7 X pins σ tg R) X.xe s1) X.xe s
theorem sr {M : Model} {A : Around} {E : Value → Shared → Prop} {s : Shared} {tg : Expr} {it : Addr} {u : Value} {o : Obj} {n : String} {vs : Array Value} {Q : Unit → Shared → Prop} (ho : s.heap.get? it = some o) (hc : o.cls = .type n) (hd : o.data = .fields vs)
    (hn : ["enumerate", "zip", "dict_itemiterator", "dict_reverseitemiterator", "odict_iterator", "itertools.zip_longest", "itertools.pairwise"].contains n = false) (hQ : Q () s) : wpAny M A (letOwnedTupleGo tg (.ref it) u) Q E s := by
  unfold letOwnedTupleGo
  cases tg <;> first
    | exact wpAny_pure hQ
    | (cases u <;> first
        | exact wpAny_pure hQ
        | (refine wpAny_bind (wpAny_load ho ?_)
           rw [hc, hd]
           show wpAny M A (if (["enumerate", "zip", "dict_itemiterator", "dict_reverseitemiterator", "odict_iterator", "itertools.zip_longest", "itertools.pairwise"].contains n && vs[0]? == some (rawInt _)) = true then _ else _) Q E s
           rw [if_neg (by intro h; rw [hn, Bool.false_and] at h; cases h)]
           exact wpAny_pure hQ))
noncomputable def F8 (K : PySem.W.Frag) (a : Addr) : It :=
  ⟨fun i H => ∃ xs x, a8 K H a xs ∧ xs[i]? = some x, fun i H x H' => H' = H ∧ ∀ xs, a8 K H a xs → xs[i]? = some x, fun i H => ∃ xs, a8 K H a xs ∧ xs.length ≤ i⟩
noncomputable def F9 (K : PySem.W.Frag) (a : Addr) : It :=
  ⟨fun i H => ∃ xs x, cB K H a xs ∧ xs[i]? = some x, fun i H x H' => H' = H ∧ ∀ xs, cB K H a xs → xs[i]? = some x, fun i H => ∃ xs, cB K H a xs ∧ xs.length ≤ i⟩
noncomputable def Dk (lo : Int) (n : Nat) : It := ⟨fun i _ => i < n, fun i H x H' => H' = H ∧ x = .int (lo + i), fun i _ => n ≤ i⟩
theorem yI {P : Program} {w : World} {K : PySem.W.Frag} {tg : Expr} (a it : Addr) : Turn P w K tg (F8 K a) [it] it (fun i h => h.IsListIter it a i) where
  mem := by simp
  obj := fun i h st b hb => by
    have e : b = it := by simpa using hb
    subst e
    obtain ⟨o, e, c, d⟩ := st
    exact ⟨o, e, fun v z => by rw [d] at z; cases z⟩
  keep := fun i h h' st k => st.at fun o e => k it (by simp) o e
  item := by
    intro X hP hw hK hc i pins s σ H E I hf st hg
    subst hP hw hK
    obtain ⟨xs, x, hq, hx⟩ := hg
    obtain ⟨its, rv, p, hz⟩ := I.list hq
    obtain ⟨u, hu, ru⟩ := rv.get hx
    obtain ⟨f0, f1, f2, f3, f4, f5⟩ := hf it (by simp)
    refine wpAny_pyNext_list_item st p.isList (x := u) (by simpa using hu) fun h' lU sb => ?_
    have I1 : Inv X pins σ H { s with heap := h' } := I.turned (t' := s.toks) (fun b o hb e => (sb.2 b hb).trans e) f0 f1 f3 f4 f5
    obtain ⟨o, e, c, d⟩ := id lU
    exact ⟨u, rfl, sr (s := { s with heap := h' }) e c d (by decide) ⟨x, H, I1, ru, ⟨rfl, fun ys hy => by rw [I.Bi hy hq]; exact hx⟩, lU, fun b hb => (hf b hb).1⟩⟩
  done := by
    intro X hP hw hK hc i pins s σ H E I hf st hg
    subst hP hw hK
    obtain ⟨xs, hq, hx⟩ := hg
    obtain ⟨its, rv, p, hz⟩ := I.list hq
    obtain ⟨f0, f1, f2, f3, f4, f5⟩ := hf it (by simp)
    have hl := rv.length
    exact wpAny_pyNext_list_end (I.ok.hd hc) st p.isList (by simp; omega) fun h' eb => ⟨rfl, I.turned (t' := s.toks) (fun b o hb e => eb b o hb e) f0 f1 f3 f4 f5⟩
  self := fun _ _ _ _ _ st h => wpAny_pyIter_listiter st h
theorem wQ {P : Program} {w : World} {K : PySem.W.Frag} {tg : Expr} (a it : Addr) : Turn P w K tg (F9 K a) [it] it (fun i h => h.IsTupleIter it a i) where
  mem := by simp
  obj := fun i h st b hb => by
    have e : b = it := by simpa using hb
    subst e
    obtain ⟨o, e, c, d⟩ := st
    exact ⟨o, e, fun v z => by rw [d] at z; cases z⟩
  keep := fun i h h' st k => st.at fun o e => k it (by simp) o e
  item := by
    intro X hP hw hK hc i pins s σ H E I hf st hg
    subst hP hw hK
    obtain ⟨xs, x, hq, hx⟩ := hg
    obtain ⟨its, rv, p, hz⟩ := I.tuple hq
    obtain ⟨u, hu, ru⟩ := rv.get hx
    obtain ⟨f0, f1, f2, f3, f4, f5⟩ := hf it (by simp)
    refine wpAny_pyNext_tuple_item st (show s.heap.IsTuple a its.toArray from p) (x := u) (by simpa using hu) fun h' lU sb => ?_
    have I1 : Inv X pins σ H { s with heap := h' } := I.turned (t' := s.toks) (fun b o hb e => (sb.2 b hb).trans e) f0 f1 f3 f4 f5
    obtain ⟨o, e, c, d⟩ := id lU
    exact ⟨u, rfl, sr (s := { s with heap := h' }) e c d (by decide) ⟨x, H, I1, ru, ⟨rfl, fun ys hy => by rw [I.yH hy hq]; exact hx⟩, lU, fun b hb => (hf b hb).1⟩⟩
  done := by
    intro X hP hw hK hc i pins s σ H E I hf st hg
    subst hP hw hK
    obtain ⟨xs, hq, hx⟩ := hg
    obtain ⟨its, rv, p, hz⟩ := I.tuple hq
    obtain ⟨f0, f1, f2, f3, f4, f5⟩ := hf it (by simp)
    have hl := rv.length
    exact wpAny_pyNext_tuple_end (I.ok.hd hc) st (show s.heap.IsTuple a its.toArray from p) (by simp; omega) fun h' eb => ⟨rfl, I.turned (t' := s.toks) (fun b o hb e => eb b o hb e) f0 f1 f3 f4 f5⟩
  self := fun _ _ _ _ _ st h => wpAny_pyIter_tupleiter st h
theorem wR {P : Program} {w : World} {K : PySem.W.Frag} {tg : Expr} (it : Addr) (lo : Int) (n : Nat) : Turn P w K tg (Dk lo n) [it] it (fun i h => IsRangeIter h it (lo + (i : Nat) * 1) ((n : Int) - (i : Nat)) 1) where
  mem := by simp
  obj := fun i h st b hb => by
    have e : b = it := by simpa using hb
    subst e
    exact ⟨_, st, fun v z => by
      have z' : Data.fields _ = Data.cell v := z
      cases z'⟩
  keep := fun i h h' st k => k it (by simp) _ st
  item := by
    intro X hP hw hK hc i pins s σ H E I hf st hg
    subst hP hw hK
    obtain ⟨f0, f1, f2, f3, f4, f5⟩ := hf it (by simp)
    have W := Walks.range (prog := X.prog) (w := X.w) (I.ok.hd hc) it lo 1 n
    refine W.item i s _ _ hg st fun v h' tk hv lU kk => ?_
    obtain ⟨t, rfl⟩ := hv
    have I1 : Inv X pins σ H { s with heap := h', toks := tk } := I.turned (fun b o hb e => kk b o (by simpa using hb) e) f0 f1 f3 f4 f5
    refine ⟨_, rfl, sr (s := { s with heap := h', toks := tk }) (n := "range_iterator") lU rfl rfl (by decide) ⟨.int (lo + i), H, I1, ⟨t, ?_⟩, ⟨rfl, rfl⟩, lU, fun b hb => (hf b hb).1⟩⟩
    rw [Int.mul_one]
  done := by
    intro X hP hw hK hc i pins s σ H E I hf st hg
    subst hP hw hK
    obtain ⟨f0, f1, f2, f3, f4, f5⟩ := hf it (by simp)
    exact wpAny_pyNext_range_end (I.ok.hd hc) st (by have : n ≤ i := hg; omega) fun h' eb => ⟨rfl, I.turned (t' := s.toks) (fun b o hb e => eb b o hb e) f0 f1 f3 f4 f5⟩
  self := fun _ _ _ _ _ st h => wpAny_pyIter_rangeiter st h
section
variable {X : Cx} {tg : Expr}
noncomputable def Dl (K : PySem.W.Frag) (tl : TE) : TI := fun σ H R => tl σ H fun x H1 => ∃ a, x = .ref a ∧ (∃ xs, a8 K H1 a xs) ∧ R (F8 K a) H1
noncomputable def Ga (K : PySem.W.Frag) (tl : TE) : TI := fun σ H R => tl σ H fun x H1 => ∃ a, x = .ref a ∧ (∃ xs, cB K H1 a xs) ∧ R (F9 K a) H1
theorem Eg {l : Expr} {tl : TE} (hl : PE X l tl) : PI X tg l (Dl X.K tl) := by
  intro pins s σ H R I h
  refine thn (hl pins s σ H _ I h) fun v s1 ⟨x, H1, I1, r1, q1⟩ => ?_
  obtain ⟨a, e, ⟨xs, hq⟩, q⟩ := q1
  subst e
  cases r1
  obtain ⟨its, rv, p, hz⟩ := I1.list hq
  refine wpAny_pyIter_list p.isList ?_
  refine ⟨s1.heap.objs.size, [s1.heap.objs.size], _, _, H1, rfl, I1.kept (t' := s1.toks) fun b o e => Heap.get?_push_of_some _ e, yI a _, ⟨_, Heap.get?_push_size _ rfl, rfl, rfl⟩, fun b hb => ?_, q⟩
  have e : b = s1.heap.objs.size := by simpa using hb
  subst e
  exact I1.pZ (Nat.le_refl _) (I1.hok.fresh (Nat.le_refl _))
theorem Gb {l : Expr} {tl : TE} (hl : PE X l tl) : PI X tg l (Ga X.K tl) := by
  intro pins s σ H R I h
  refine thn (hl pins s σ H _ I h) fun v s1 ⟨x, H1, I1, r1, q1⟩ => ?_
  obtain ⟨a, e, ⟨xs, hq⟩, q⟩ := q1
  subst e
  cases r1
  obtain ⟨its, rv, p, hz⟩ := I1.tuple hq
  refine wpAny_pyIter_tuple (show s1.heap.IsTuple a its.toArray from p) ?_
  refine ⟨s1.heap.objs.size, [s1.heap.objs.size], _, _, H1, rfl, I1.kept (t' := s1.toks) fun b o e => Heap.get?_push_of_some _ e, wQ a _, ⟨_, Heap.get?_push_size _ rfl, rfl, rfl⟩, fun b hb => ?_, q⟩
  have e : b = s1.heap.objs.size := by simpa using hb
  subst e
  exact I1.pZ (Nat.le_refl _) (I1.hok.fresh (Nat.le_refl _))
theorem Bk {pins : List (Addr × Obj)} {σ : St} {H : Hp} {s : Shared} {R : It → Hp → Prop} {E : Value → Shared → Prop} {lo hi : Int} {t u v : Tok} {tk : Nat} (I : Inv X pins σ H s) (h1 : -(2 ^ 62) ≤ lo) (h2 : lo < 2 ^ 62) (h3 : -(2 ^ 62) ≤ hi) (h4 : hi < 2 ^ 62)
    (q : R (Dk lo (hi - lo).toNat) H) : wpAny (model X.prog X.w) X.A (pyIter (.ref s.heap.objs.size)) (F7 X pins σ tg R) E { s with heap := s.heap.push { cls := .type "range", data := .fields #[.int lo t, .int hi u, .int 1 v] }, toks := tk } := by
  refine wpAny_pyIter_range (IsRange.new ..) (small_one h1 h2 h3 h4) ?_
  have I1 : Inv X pins σ H { s with heap := s.heap.push { cls := .type "range", data := .fields #[.int lo t, .int hi u, .int 1 v] }, toks := tk } := I.kept fun b o e => Heap.get?_push_of_some _ e
  refine ⟨(s.heap.push { cls := .type "range", data := .fields #[.int lo t, .int hi u, .int 1 v] }).objs.size, [(s.heap.push { cls := .type "range", data := .fields #[.int lo t, .int hi u, .int 1 v] }).objs.size], _, _, H, rfl,
    I1.kept (t' := tk) fun b o e => Heap.get?_push_of_some _ e, wR _ lo (hi - lo).toNat, ?_, fun b hb => ?_, q⟩
  · have e1 : lo + ((0 : Nat) : Int) * 1 = lo := by simp
    have e2 : (((hi - lo).toNat : Nat) : Int) - ((0 : Nat) : Int) = Builtin.Range.rangeSize lo hi 1 := by rw [rangeSize_one]; split <;> omega
    show IsRangeIter _ _ (lo + ((0 : Nat) : Int) * 1) ((((hi - lo).toNat : Nat) : Int) - ((0 : Nat) : Int)) 1
    rw [e1, e2]
    exact Heap.get?_push_size _ rfl
  · have e : b = (s.heap.push { cls := .type "range", data := .fields #[.int lo t, .int hi u, .int 1 v] }).objs.size := by simpa using hb
    subst e
    exact I1.pZ (Nat.le_refl _) (I1.hok.fresh (Nat.le_refl _))
noncomputable def Dm (ta : TA) : TI := fun σ H R => ta σ H fun vs H1 => ∃ j : Int, vs = [.int j] ∧ -(2 ^ 62) ≤ j ∧ j < 2 ^ 62 ∧ R (Dk 0 j.toNat) H1
theorem cT {a : Expr} {ta : TA} {p pos : Pos} (hg : Gl X "range") (hm : X.mg "range" = none) (ha : PA X [a] ta) (hs : starEach [a] X.env = [(false, eval a X.env)] := by rfl) : PI X tg (.Call (.Name "range" p) [a] [] pos) (Dm ta) := by
  intro pins s σ H R I h
  refine Call_ (fE I hg hm boot_range (PyProof.Rows.callWith_type1 (thn (ha pos pins s σ H _ I h) fun us s1 ⟨vs, H1, I1, r1, q1⟩ => ?_) hs rfl))
  obtain ⟨j, e, q1, q2, q⟩ := q1
  subst e
  cases r1 with
  | cons r rr =>
    cases rr
    obtain ⟨t, rfl⟩ := r
    exact call_range_1 (Bk I1 (by omega) (by omega) q1 q2 (by simpa using q))
noncomputable def Gd (wi : TI) (g : TG) (tb : TS) : TS := fun D σ H => wi σ H fun J H1 => ∃ W : Nat → Nat → St → Hp → Prop, (∃ m, W 0 m σ H1) ∧ ∀ i m σ H, W i m σ H →
  (J.stop i H ∧ D.nx σ H) ∨ (J.go i H ∧ ∃ N : St → Hp → Prop, (∀ aC H', N aC H' → ∃ m', m' < m ∧ W (i + 1) m' aC H') ∧ ∀ x H', J.yld i H x H' → g x σ H' fun fF H2 => tb { D with nx := N, ct := N, bk := D.nx } fF H2)
noncomputable def gu (fp : List Addr) (h : Heap) : List (Addr × Obj) := fp.filterMap fun b => (h.get? b).map fun o => (b, o)
theorem bZ {fp : List Addr} {h : Heap} {b : Addr} {o : Obj} (hb : b ∈ fp) (e : h.get? b = some o) : (b, o) ∈ gu fp h := List.mem_filterMap.mpr ⟨b, hb, by rw [e]; rfl⟩
theorem yJ {fp : List Addr} {h : Heap} {p : Addr × Obj} (hp : p ∈ gu fp h) : p.1 ∈ fp ∧ h.get? p.1 = some p.2 := by
  obtain ⟨b, hb, e⟩ := List.mem_filterMap.mp hp
  cases q : h.get? b with
  | none => rw [q] at e; cases e
  | some o =>
    rw [q] at e
    have e' : (b, o) = p := Option.some.inj e
    subst e'
    exact ⟨hb, q⟩
theorem Inv.pinned {pins : List (Addr × Obj)} {σ : St} {H : Hp} {s : Shared} {fp : List Addr} (I : Inv X pins σ H s) (hf : ∀ b ∈ fp, dR X pins H b) (ho : ∀ b ∈ fp, ∃ o, s.heap.get? b = some o ∧ ∀ v, o.data ≠ .cell v) : Inv X (pins ++ gu fp s.heap) σ H s :=
  I.pW fun p hp => (List.mem_append.mp hp).elim (fun z => I.pin p (List.mem_append_right _ z)) fun z => by
    obtain ⟨hb, e⟩ := yJ z
    obtain ⟨f0, f1, f2, _⟩ := hf p.1 hb
    obtain ⟨o, e', d⟩ := ho p.1 hb
    rw [e] at e'; cases e'
    exact ⟨e, f0, f1, f2, d⟩
theorem Inv.b6 {pins pl : List (Addr × Obj)} {σ : St} {H : Hp} {s : Shared} (I : Inv X (pins ++ pl) σ H s) : Inv X pins σ H s := I.pW fun p hp => I.pin p (List.mem_append_right _ (List.mem_append_left _ hp))
theorem i9 {iter : Expr} {body : List Stmt} {wi : TI} {g : TG} {tb : TS} {pos : Pos} (hp : PassesOwn (model X.prog X.w) X.A X.env X.xe) (hc : X.calm = true) (hi : PI X tg iter wi) (hg : PG X tg g) (hb : d6 X body tb)
    (hs : ∀ x, foldedSetIterable iter X.env x = pure x := by intro _; rfl) : PS X (.For tg iter body [] pos) (Gd wi g tb) := by
  refine ⟨?_⟩
  intro pins s σ H D I h
  refine wpAny_For (thn (hi pins s σ H _ I h) fun v s1 h1 => thn h1 fun vP s2 h2 => ?_) hs
  obtain ⟨it, fp, tn, J, H2, e, I2, T, oI, f2, W, ⟨m0, w0⟩, turn⟩ := h2
  subst e
  have stat : ∀ {H' : Hp}, (∀ b ∈ fp, H' b = none) → ∀ b ∈ fp, dR X pins H' b := fun hn b hb => ⟨hn b hb, (f2 b hb).2⟩
  refine codeAny_forLoop_any (fun n s' => ∃ i aC H', Inv X pins aC H' s' ∧ tn i s'.heap ∧ (∀ b ∈ fp, H' b = none) ∧ W i n aC H') ?_ m0 ⟨0, σ, H2, I2, oI, fun b hb => (f2 b hb).1, w0⟩
  rintro n s3 ⟨i, lz, H3, I3, lV, qH, w3⟩
  rcases turn i n lz H3 w3 with ⟨stop, qn⟩ | ⟨go, N, hN, step⟩
  · refine wpAny_passesOwn hp (thn (T.done X rfl rfl rfl hc i pins s3 lz H3 X.xe I3 (stat qH) lV stop) fun r s4 ⟨hr, I4⟩ => ?_)
    subst hr
    exact wpAny_execs_nil ⟨lz, H3, I4, qn⟩
  · refine wpAny_passesOwn hp (thn (T.item X rfl rfl rfl hc i pins s3 lz H3 X.xe I3 (stat qH) lV go) fun r s4 ⟨u, hr, h4⟩ => ?_)
    subst hr
    refine wpAny_passesOwn hp (thn h4 fun _ s5 ⟨x, H5, I5, r5, y5, gv, oJ⟩ => ?_)
    have oK := I5.pinned (stat oJ) (T.obj _ _ gv)
    refine wpAny_passesOwn hp (thn (hg _ s5 lz H5 x u _ oK r5 (step x H5 y5)) fun _ s6 ⟨ND, H6, I6, q6⟩ => ?_)
    refine wpAny_passesOwn hp (thn (hb _ s6 ND H6 _ I6 q6) fun f s7 q7 => ?_)
    have again : ∀ {lW : St} {H7 : Hp}, Inv X (pins ++ gu fp s5.heap) lW H7 s7 → N lW H7 → ∃ m, m < n ∧ ∃ i aC H', Inv X pins aC H' s7 ∧ tn i s7.heap ∧ (∀ b ∈ fp, H' b = none) ∧ W i m aC H' := fun {lW H7} I7 n7 => by
      obtain ⟨m', hm, w7⟩ := hN lW H7 n7
      refine ⟨m', hm, i + 1, lW, H7, I7.b6, T.keep _ _ _ gv fun b hb o e => (I7.pin (b, o) (List.mem_append_right _ (List.mem_append_right _ (bZ hb e)))).1, fun b hb => ?_, w7⟩
      obtain ⟨o, e, d⟩ := T.obj _ _ gv b hb
      exact (I7.pin (b, o) (List.mem_append_right _ (List.mem_append_right _ (bZ hb e)))).2.1
    cases f with
    | next => obtain ⟨lW, H7, I7, n7⟩ := q7; exact again I7 n7
    | cont => obtain ⟨lW, H7, I7, n7⟩ := q7; exact again I7 n7
    | brk => obtain ⟨lW, H7, I7, q7⟩ := q7; exact ⟨lW, H7, I7.b6, q7⟩
    | ret v => obtain ⟨x7, lW, H7, I7, r7, q7⟩ := q7; exact ⟨x7, lW, H7, I7.b6, r7, q7⟩
end
theorem Bm {c : TT} {tb : TS} {D : Ends} {σ : St} {H : Hp} (Pv : St → Hp → Prop) (μ : St → Hp → Nat) (h0 : Pv σ H)
    (hs : ∀ σ H, Pv σ H → c σ H fun b H1 => if b = true then tb { D with nx := fun aC H' => Pv aC H' ∧ μ aC H' < μ σ H, ct := fun aC H' => Pv aC H' ∧ μ aC H' < μ σ H, bk := D.nx } σ H1 else D.nx σ H1)
    (mono : ∀ σ H Q Q', (∀ b H1, Q b H1 → Q' b H1) → c σ H Q → c σ H Q') : sR c tb D σ H := by
  refine ⟨fun m σ H => m = μ σ H ∧ Pv σ H, ⟨_, rfl, h0⟩, ?_⟩
  rintro m σ H ⟨rfl, p⟩
  refine mono σ H _ _ (fun b H1 q => ?_) (hs σ H p)
  cases b with
  | true => exact ⟨_, fun aC H' ⟨p', l⟩ => ⟨_, l, rfl, p'⟩, q⟩
  | false => exact q
noncomputable abbrev R2 := V → V → Hp → VK → Prop
noncomputable def OpR (X : Cx) (f : Value → Value → Sem Value) (r : R2) : Prop :=
  ∀ (pins : List (Addr × Obj)) (s : Shared) (σ : St) (H : Hp) (x y : V) (v u : Value) (Q : VK), Inv X pins σ H s → RelV x v → RelV y u → r x y H Q →
    wpAny (model X.prog X.w) X.A (f v u) (EP X pins σ Q) X.xe s
noncomputable def UnR (X : Cx) (f : Value → Sem Value) (r : V → Hp → VK → Prop) : Prop :=
  ∀ (pins : List (Addr × Obj)) (s : Shared) (σ : St) (H : Hp) (x : V) (v : Value) (Q : VK), Inv X pins σ H s → RelV x v → r x H Q →
    wpAny (model X.prog X.w) X.A (f v) (EP X pins σ Q) X.xe s
noncomputable def cq (X : Cx) (f : Value) (r : List V → Hp → VK → Prop) : Prop :=
  ∀ (pins : List (Addr × Obj)) (s : Shared) (σ : St) (H : Hp) (xs : List V) (us : List Value) (Q : VK), Inv X pins σ H s → Vals xs us → r xs H Q →
    wpAny (model X.prog X.w) X.A (call f us) (EP X pins σ Q) X.xe s
noncomputable def Ml (X : Cx) (r : V → Hp → (Bool → Hp → Prop) → Prop) : Prop :=
  ∀ (pins : List (Addr × Obj)) (s : Shared) (σ : St) (H : Hp) (x : V) (v : Value) (Q : Bool → Hp → Prop), Inv X pins σ H s → RelV x v → r x H Q →
    wpAny (model X.prog X.w) X.A (truthy v) (TP X pins σ Q) X.xe s
noncomputable def yK (r : R2) (ta tb : TE) : TE := fun σ H Q => ta σ H fun x H1 => tb σ H1 fun y H2 => r x y H2 Q
noncomputable def NF (r : V → Hp → VK → Prop) (ta : TE) : TE := fun σ H Q => ta σ H fun x H1 => r x H1 Q
noncomputable def rI (C : Int → Int → Prop) (g : Int → Int → V) : R2 := fun x y H Q => ∃ i j, x = .int i ∧ y = .int j ∧ C i j ∧ Q (g i j) H
noncomputable def oM (g : Int → Int → V) : R2 := fun x y H Q => ∃ i j, x = .int i ∧ y = .int j ∧ Q (g i j) H
noncomputable def rU (g : Int → V) : V → Hp → VK → Prop := fun x H Q => ∃ i, x = .int i ∧ Q (g i) H
section
variable {X : Cx} {a b c : Expr} {ta tb tc : TE} {pos : Pos}
theorem Bn (ha : PE X a ta) (hb : PE X b tb) {pins : List (Addr × Obj)} {s : Shared} {σ : St} {H : Hp} {R : V → V → Hp → Prop} (I : Inv X pins σ H s)
    (h : ta σ H fun x H1 => tb σ H1 fun y H2 => R x y H2) {Q : Value → Shared → Prop} {f : Value → Value → Sem Value}
    (hf : ∀ v u s2 x y H2, Inv X pins σ H2 s2 → RelV x v → RelV y u → R x y H2 → wpAny (model X.prog X.w) X.A (f v u) Q X.xe s2) :
    wpAny (model X.prog X.w) X.A (eval a X.env) (fun v au => wpAny (model X.prog X.w) X.A (eval b X.env) (fun u fW => wpAny (model X.prog X.w) X.A (f v u) Q X.xe fW) X.xe au) X.xe s := by
  refine thn (ha pins s σ H _ I h) fun v s1 ⟨x, H1, I1, r1, q1⟩ => ?_
  refine thn (hb pins s1 σ H1 _ I1 q1) fun u s2 ⟨y, H2, I2, r2, q2⟩ => ?_
  exact hf v u s2 x y H2 I2 r1 r2 q2
theorem bf {op : Operator} {r : R2} (ho : OpR X (binaryOp op) r) (ha : PE X a ta) (hb : PE X b tb) : PE X (.BinOp a op b pos) (yK r ta tb) := by
  refine ⟨?_⟩
  intro pins s σ H Q I h
  exact wpAny_BinOp (Bn ha hb I h fun v u s2 x y H2 I2 rx ry q => ho pins s2 σ H2 x y v u Q I2 rx ry q)
theorem Jq {op : UnaryOp} {r : V → Hp → VK → Prop} (ho : UnR X (unaryOp op) r) (ha : PE X a ta) : PE X (.UnaryOp op a pos) (NF r ta) := by
  refine ⟨?_⟩
  intro pins s σ H Q I h
  exact UnaryOp_ (thn (ha pins s σ H _ I h) fun v s1 ⟨x, H1, I1, r1, q1⟩ => ho pins s1 σ H1 x v Q I1 r1 q1)
theorem vQ {f : Value → Value → Sem Value} {C : Int → Int → Prop} {g : Int → Int → Int}
    (rule : ∀ (i j : Int) (t u : Tok) (s : Shared) (Q : Value → Shared → Prop) (E : Value → Shared → Prop), C i j → Q (.int (g i j) s.toks) { s with toks := s.toks + 1 } → wpAny (model X.prog X.w) X.A (f (.int i t) (.int j u)) Q E s) :
    OpR X f (rI C fun i j => .int (g i j)) := by
  intro pins s σ H x y v u Q I rx ry h
  obtain ⟨i, j, rfl, rfl, hc, q⟩ := h
  obtain ⟨t, rfl⟩ := rx
  obtain ⟨t', rfl⟩ := ry
  exact rule i j t t' s _ _ hc ⟨.int (g i j), H, I.tok _, ⟨_, rfl⟩, q⟩
theorem Bo {f : Value → Value → Sem Value} {g : Int → Int → Int}
    (rule : ∀ (i j : Int) (t u : Tok) (s : Shared) (Q : Value → Shared → Prop) (E : Value → Shared → Prop), Q (.int (g i j) s.toks) { s with toks := s.toks + 1 } → wpAny (model X.prog X.w) X.A (f (.int i t) (.int j u)) Q E s) :
    OpR X f (oM fun i j => .int (g i j)) := by
  intro pins s σ H x y v u Q I rx ry h
  obtain ⟨i, j, rfl, rfl, q⟩ := h
  obtain ⟨t, rfl⟩ := rx
  obtain ⟨t', rfl⟩ := ry
  exact rule i j t t' s _ _ ⟨.int (g i j), H, I.tok _, ⟨_, rfl⟩, q⟩
theorem Bp {f : Value → Value → Sem Value} {g : Int → Int → Bool}
    (rule : ∀ (i j : Int) (t u : Tok) (s : Shared) (Q : Value → Shared → Prop) (E : Value → Shared → Prop), Q (.bool (g i j)) s → wpAny (model X.prog X.w) X.A (f (.int i t) (.int j u)) Q E s) :
    OpR X f (oM fun i j => .bl (g i j)) := by
  intro pins s σ H x y v u Q I rx ry h
  obtain ⟨i, j, rfl, rfl, q⟩ := h
  obtain ⟨t, rfl⟩ := rx
  obtain ⟨t', rfl⟩ := ry
  exact rule i j t t' s _ _ ⟨.bl (g i j), H, I, rfl, q⟩
noncomputable def Mm (i j : Int) : Prop := 0 < j ∧ j < 1073741824
noncomputable def Bq (i j : Int) : Prop := 0 ≤ j ∧ j ≤ 1000000 ∧ i.natAbs < 2 ^ 64
noncomputable def Br (i j : Int) : Prop := (-(2 ^ 64) < i ∧ i < 2 ^ 64) ∨ (-(2 ^ 64) < j ∧ j < 2 ^ 64)
theorem Br.ok {i j : Int} (h : Br i j) : IntMulOk i j := by
  rcases h with ⟨h1, h2⟩ | ⟨h1, h2⟩
  · exact .of_left (intBits_le_64 h1 h2)
  · exact .of_right (intBits_le_64 h1 h2)
theorem wU (k : Nat) : (0 : Int) ≤ 2 ^ k := by
  rw [two_pow_cast]
  exact Int.natCast_nonneg _
theorem eO : OpR X (binaryOp .Add) (oM fun i j => .int (i + j)) := Bo fun _ _ _ _ _ _ _ q => add_int q
theorem oN : OpR X (binaryOp .Sub) (oM fun i j => .int (i - j)) := Bo fun _ _ _ _ _ _ _ q => sub_int q
theorem ja : OpR X (binaryOp .Mult) (rI Br fun i j => .int (i * j)) := vQ fun _ _ _ _ _ _ _ hc q => mul_int q hc.ok
theorem p7 : OpR X (binaryOp .FloorDiv) (rI Mm fun i j => .int (i / j)) := vQ fun i j _ _ _ _ _ hc q => by
  have h1 : (0 : Int) < j := hc.1
  have h2 : j < 1073741824 := hc.2
  exact floordiv_int (by omega) (by rw [Int.fdiv_eq_ediv_of_nonneg i (by omega)]; exact q) (.inl (PyProof.noPylong_small (by omega)))
theorem hU : OpR X (binaryOp .Mod) (rI (fun _ j => 0 < j) fun i j => .int (i % j)) := vQ fun i j _ _ _ _ _ hc q => by
  have h1 : (0 : Int) < j := hc
  exact mod_int' (by omega) (by rw [Int.fmod_eq_emod_of_nonneg i (by omega)]; exact q)
theorem yL : OpR X (binaryOp .Pow) (rI Bq fun i j => .int (i ^ j.toNat)) := vQ fun _ _ _ _ _ _ _ hc q => pow_int_small hc.1 hc.2.1 hc.2.2 q
theorem Ge : OpR X (binaryOp .LShift) (rI Bq fun i j => .int (i * 2 ^ j.toNat)) := vQ fun _ _ _ _ _ _ _ hc q => lshift_int_small hc.1 hc.2.1 hc.2.2 q
theorem Gf : OpR X (binaryOp .RShift) (rI (fun _ j => 0 ≤ j) fun i j => .int (i / 2 ^ j.toNat)) := vQ fun i j _ _ _ _ _ hc q =>
  rshift_int hc (by rw [Int.fdiv_eq_ediv_of_nonneg i (wU _)]; exact q)
theorem Gg : OpR X (binaryOp .BitAnd) (oM fun i j => .int (Builtin.bitAnd i j)) := Bo fun _ _ _ _ _ _ _ q => and_int q
theorem NK {f : Value → Sem Value} {g : Int → Int}
    (rule : ∀ (i : Int) (t : Tok) (s : Shared) (Q : Value → Shared → Prop) (E : Value → Shared → Prop), Q (.int (g i) s.toks) { s with toks := s.toks + 1 } → wpAny (model X.prog X.w) X.A (f (.int i t)) Q E s) :
    UnR X f (rU fun i => .int (g i)) := by
  intro pins s σ H x v Q I rx h
  obtain ⟨i, rfl, q⟩ := h
  obtain ⟨t, rfl⟩ := rx
  exact rule i t s _ _ ⟨.int (g i), H, I.tok _, ⟨_, rfl⟩, q⟩
theorem Gh : UnR X (unaryOp .USub) (rU fun i => .int (-i)) := NK fun _ _ _ _ _ q => neg_int q
end
noncomputable def Bs : V → V → Bool
  | .aq, .aq => true | .aq, .int _ => true | .int _, .aq => true | .aq, .bl _ => true | .bl _, .aq => true | .aq, .str _ => true | .str _, .aq => true
  | .int _, .int _ => true | .bl _, .bl _ => true | .str _, .str _ => true | .iY _, .iY _ => true
  | .int _, .str _ => true | .str _, .int _ => true | .bl _, .str _ => true | .str _, .bl _ => true
  | _, _ => false
noncomputable def NM : R2 := fun x y H Q => Bs x y = true ∧ Q (.bl (decide (x = y))) H
noncomputable def NN : R2 := fun x y H Q => Bs x y = true ∧ Q (.bl (!decide (x = y))) H
theorem vR {i j : Int} : decide (V.int i = V.int j) = (i == j) := by
  rw [Bool.eq_iff_iff]
  simp
theorem yM {i j : Bool} : decide (V.bl i = V.bl j) = (i == j) := by
  rw [Bool.eq_iff_iff]
  simp
theorem vT {i j : Str} : decide (V.str i = V.str j) = (i == j) := by
  rw [Bool.eq_iff_iff]
  simp
theorem vU {i j : Array UInt8} : decide (V.iY i = V.iY j) = (i.toList == j.toList) := by
  rw [Bool.eq_iff_iff]
  cases i
  cases j
  simp
section
variable {X : Cx} {a b c : Expr} {ta tb tc : TE} {pos : Pos}
theorem bc {pins : List (Addr × Obj)} {σ : St} {H : Hp} {s : Shared} {Q : VK} {k k' : Bool} (I : Inv X pins σ H s) (q : Q (.bl k) H) (e : k = k') : EP X pins σ Q (.bool k') s := by
  subst e
  exact ⟨.bl k, H, I, rfl, q⟩
theorem oO : OpR X (compareOp .Eq) NM := by
  intro pins s σ H x y v u Q I rx ry h
  obtain ⟨hs, q⟩ := h
  cases x with
  | aq =>
    cases rx
    cases y with
    | aq => cases ry; exact PySem.EqNone.eq_none_none (bc I q (by simp))
    | bl j => cases ry; exact PySem.EqNone.eq_none_bool (bc I q (by simp))
    | int j => obtain ⟨t', rfl⟩ := ry; exact PySem.EqNone.eq_none_int (bc I q (by simp))
    | str j => obtain ⟨t', rfl⟩ := ry; exact PySem.EqNone.eq_none_str (bc I q (by simp))
    | _ => exact absurd (show false = true from hs) Bool.false_ne_true
  | bl i =>
    cases rx
    cases y with
    | aq => cases ry; exact PySem.EqNone.eq_bool_none (bc I q (by simp))
    | bl j => cases ry; exact eq_bool (bc I q yM)
    | str j => obtain ⟨t', rfl⟩ := ry; exact PySem.EqMixed.eq_bool_str (bc I q (by simp))
    | _ => exact absurd (show false = true from hs) Bool.false_ne_true
  | int i =>
    obtain ⟨t, rfl⟩ := rx
    cases y with
    | aq => cases ry; exact PySem.EqNone.eq_int_none (bc I q (by simp))
    | int j => obtain ⟨t', rfl⟩ := ry; exact eq_int (bc I q vR)
    | str j => obtain ⟨t', rfl⟩ := ry; exact PySem.EqMixed.eq_int_str (bc I q (by simp))
    | _ => exact absurd (show false = true from hs) Bool.false_ne_true
  | str i =>
    obtain ⟨t, rfl⟩ := rx
    cases y with
    | aq => cases ry; exact PySem.EqNone.eq_str_none (bc I q (by simp))
    | bl j => cases ry; exact PySem.EqMixed.eq_str_bool (bc I q (by simp))
    | int j => obtain ⟨t', rfl⟩ := ry; exact PySem.EqMixed.eq_str_int (bc I q (by simp))
    | str j => obtain ⟨t', rfl⟩ := ry; exact eq_str (bc I q vT)
    | _ => exact absurd (show false = true from hs) Bool.false_ne_true
  | iY i =>
    obtain ⟨t, rfl⟩ := rx
    cases y with
    | iY j => obtain ⟨t', rfl⟩ := ry; exact PySem.W.eq_bytes (bc I q vU)
    | _ => exact absurd (show false = true from hs) Bool.false_ne_true
  | _ => cases y <;> exact absurd (show false = true from hs) Bool.false_ne_true
theorem Jr : OpR X (compareOp .NotEq) NN := by
  intro pins s σ H x y v u Q I rx ry h
  obtain ⟨hs, q⟩ := h
  cases x with
  | aq =>
    cases rx
    cases y with
    | aq => cases ry; exact PySem.EqNone.ne_none_none (bc I q (by simp))
    | bl j => cases ry; exact PySem.EqNone.ne_none_bool (bc I q (by simp))
    | int j => obtain ⟨t', rfl⟩ := ry; exact PySem.EqNone.ne_none_int (bc I q (by simp))
    | str j => obtain ⟨t', rfl⟩ := ry; exact PySem.EqNone.ne_none_str (bc I q (by simp))
    | _ => exact absurd (show false = true from hs) Bool.false_ne_true
  | bl i =>
    cases rx
    cases y with
    | aq => cases ry; exact PySem.EqNone.ne_bool_none (bc I q (by simp))
    | bl j => cases ry; exact ne_bool (bc I q (congrArg not yM))
    | str j => obtain ⟨t', rfl⟩ := ry; exact PySem.EqMixed.ne_bool_str (bc I q (by simp))
    | _ => exact absurd (show false = true from hs) Bool.false_ne_true
  | int i =>
    obtain ⟨t, rfl⟩ := rx
    cases y with
    | aq => cases ry; exact PySem.EqNone.ne_int_none (bc I q (by simp))
    | int j => obtain ⟨t', rfl⟩ := ry; exact ne_int (bc I q (congrArg not vR))
    | str j => obtain ⟨t', rfl⟩ := ry; exact PySem.EqMixed.ne_int_str (bc I q (by simp))
    | _ => exact absurd (show false = true from hs) Bool.false_ne_true
  | str i =>
    obtain ⟨t, rfl⟩ := rx
    cases y with
    | aq => cases ry; exact PySem.EqNone.ne_str_none (bc I q (by simp))
    | bl j => cases ry; exact PySem.EqMixed.ne_str_bool (bc I q (by simp))
    | int j => obtain ⟨t', rfl⟩ := ry; exact PySem.EqMixed.ne_str_int (bc I q (by simp))
    | str j => obtain ⟨t', rfl⟩ := ry; exact ne_str (bc I q (congrArg not vT))
    | _ => exact absurd (show false = true from hs) Bool.false_ne_true
  | iY i =>
    obtain ⟨t, rfl⟩ := rx
    cases y with
    | iY j => obtain ⟨t', rfl⟩ := ry; exact PySem.W.ne_bytes (bc I q (congrArg not vU))
    | _ => exact absurd (show false = true from hs) Bool.false_ne_true
  | _ => cases y <;> exact absurd (show false = true from hs) Bool.false_ne_true
theorem su : OpR X (compareOp .Lt) (oM fun i j => .bl (decide (i < j))) := Bp fun _ _ _ _ _ _ _ q => lt_int q
theorem Js : OpR X (compareOp .LtE) (oM fun i j => .bl (decide (i ≤ j))) := Bp fun _ _ _ _ _ _ _ q => le_int q
theorem wV : OpR X (compareOp .Gt) (oM fun i j => .bl (decide (j < i))) := Bp fun _ _ _ _ _ _ _ q => gt_int q
theorem yN : OpR X (compareOp .In) (fun x y H Q => ∃ i j, x = .str i ∧ y = .str j ∧ Q (.bl (!(Builtin.Str.occurrences j i 0 j.length 1).isEmpty)) H) := by
  intro pins s σ H x y v u Q I rx ry h
  obtain ⟨i, j, rfl, rfl, q⟩ := h
  obtain ⟨t, rfl⟩ := rx
  obtain ⟨t', rfl⟩ := ry
  exact in_str (bc I q rfl)
theorem bU (b : Expr) {op : CmpOp} (h : op ≠ .In := by decide) (h2 : op ≠ .NotIn := by decide) : behindInMarks op b = false := by
  have e1 : (op == CmpOp.In) = false := by cases op <;> first | rfl | exact absurd rfl h
  have e2 : (op == CmpOp.NotIn) = false := by cases op <;> first | rfl | exact absurd rfl h2
  cases b <;> simp [behindInMarks, e1, e2]
theorem Eh {op : CmpOp} {r : R2} (ho : OpR X (compareOp op) r) (ha : PE X a ta) (hb : PE X b tb) (hm : behindInMarks op b = false) : PE X (.Compare a [op] [b] pos) (yK r ta tb) := by
  refine ⟨?_⟩
  intro pins s σ H Q I h
  exact wpAny_Compare1 (Bn ha hb I h fun v u s2 x y H2 I2 rx ry q => ho pins s2 σ H2 x y v u Q I2 rx ry q) hm
noncomputable def wW (t : TE) : TT := fun σ H Q => t σ H fun x H' => ∃ k, x = .bl k ∧ Q k H'
theorem ej {op : CmpOp} {r : R2} (ho : OpR X (compareOp op) r) (ha : PE X a ta) (hb : PE X b tb) (hm : behindInMarks op b = false) : PT X (.Compare a [op] [b] pos) (wW (yK r ta tb)) := by
  refine ⟨?_⟩
  intro pins s σ H Q I h
  refine wpAny_isTrue_Compare1 (thn (ha pins s σ H _ I h) fun v s1 ⟨x, H1, I1, r1, q1⟩ => thn (hb pins s1 σ H1 _ I1 q1) fun u s2 ⟨y, H2, I2, r2, q2⟩ =>
    thn (ho pins s2 σ H2 x y v u _ I2 r1 r2 q2) fun c s3 ⟨z, H3, I3, r3, k, e, q3⟩ => ?_) hm
  subst e
  cases r3
  exact wpAny_truthy_bool ⟨H3, I3, q3⟩
noncomputable def sT (r r' : R2) (ta tb tc : TE) : TE := fun σ H Q => ta σ H fun x H1 => tb σ H1 fun y H2 => r x y H2 fun z H3 => ∃ k, z = .bl k ∧
  (if k = true then tc σ H3 fun w' H4 => r' y w' H4 Q else Q (.bl false) H3)
theorem Bt {op jb : CmpOp} {r r' : R2} (ho : OpR X (compareOp op) r) (fB : OpR X (compareOp jb) r') (ha : PE X a ta) (hb : PE X b tb) (hc : PE X c tc)
    (hm : lastMarks [op, jb] [b, c] = false := by with_unfolding_all rfl) : PE X (.Compare a [op, jb] [b, c] pos) (sT r r' ta tb tc) := by
  refine ⟨?_⟩
  intro pins s σ H Q I h
  refine Compare_chain (thn (ha pins s σ H _ I h) fun v s1 ⟨x, H1, I1, r1, q1⟩ => chain_link (thn (hb pins s1 σ H1 _ I1 q1) fun u s2 ⟨y, H2, I2, r2, q2⟩ =>
    thn (ho pins s2 σ H2 x y v u _ I2 r1 r2 q2) fun d s3 ⟨z, H3, I3, r3, k, e, q3⟩ => ?_)) hm
  subst e
  cases r3
  refine wpAny_truthy_bool ?_
  cases k with
  | false => exact ite_ff ⟨.bl false, H3, I3, rfl, q3⟩
  | true => exact ite_tt (chain_last (thn (hc pins s3 σ H3 _ I3 q3) fun w' s4 ⟨z', H4, I4, r4, q4⟩ => fB pins s4 σ H4 y z' u w' Q I4 r2 r4 q4))
theorem Bu {op jb : CmpOp} {r r' : R2} (ho : OpR X (compareOp op) r) (fB : OpR X (compareOp jb) r') (ha : PE X a ta) (hb : PE X b tb) (hc : PE X c tc)
    (hm : lastMarks [op, jb] [b, c] = false := by with_unfolding_all rfl) : PT X (.Compare a [op, jb] [b, c] pos) (wW (sT r r' ta tb tc)) := by
  refine ⟨?_⟩
  intro pins s σ H Q I h
  refine isTrue_chain (thn (ha pins s σ H _ I h) fun v s1 ⟨x, H1, I1, r1, q1⟩ => test_link (thn (hb pins s1 σ H1 _ I1 q1) fun u s2 ⟨y, H2, I2, r2, q2⟩ =>
    thn (ho pins s2 σ H2 x y v u _ I2 r1 r2 q2) fun d s3 ⟨z, H3, I3, r3, k, e, q3⟩ => ?_)) hm
  subst e
  cases r3
  refine wpAny_truthy_bool ?_
  cases k with
  | false =>
    obtain ⟨k', e', q'⟩ := q3
    cases e'
    exact ite_ff ⟨H3, I3, q'⟩
  | true =>
    refine ite_tt (test_last (thn (hc pins s3 σ H3 _ I3 q3) fun w' s4 ⟨z', H4, I4, r4, q4⟩ => thn (fB pins s4 σ H4 y z' u w' _ I4 r2 r4 q4) fun d' s5 ⟨z2, H5, I5, r5, k2, e2, q5⟩ => ?_))
    subst e2
    cases r5
    exact wpAny_truthy_bool ⟨H5, I5, q5⟩
noncomputable def Mp (K : PySem.W.Frag) (x : V) (H : Hp) (k : Bool) : Prop :=
  match x with
  | .aq => k = false
  | .bl b => k = b
  | .int i => k = (i != 0)
  | .str y => y.length ≤ sizeLine ∧ k = ((y.length : Int) != 0)
  | .iY y => y.size ≤ sizeLine ∧ k = ((y.size : Int) != 0)
  | .ref p => (∃ xs, a8 K H p xs ∧ k = !xs.isEmpty) ∨ (∃ xs, cB K H p xs ∧ k = !xs.isEmpty) ∨ ∃ ao, H p = some (.dK ao) ∧ k = !ao.isEmpty
  | _ => False
theorem wX {κ : Type} {ao : List (κ × V)} {vs : List (κ × Value)} (r : KV ao vs) : (!vs.isEmpty) = !ao.isEmpty := by
  cases r <;> rfl
theorem oP {xs : List V} {its : List Value} (r : Vals xs its) : (!its.toArray.isEmpty) = !xs.isEmpty := by
  cases r <;> simp
theorem jc : (sizeLine : Nat) < 2 ^ 63 := by rw [sizeLine_eq]; decide
theorem NP : Ml X (fun x H Q => ∃ k, Mp X.K x H k ∧ Q k H) := by
  intro pins s σ H x v Q I rx h
  obtain ⟨k, e, q⟩ := h
  have hl := jc
  have hs : sizeLine = 16777216 := sizeLine_eq
  cases x with
  | aq =>
    cases rx
    have e' : k = false := e
    subst e'
    exact truthy_none ⟨H, I, q⟩
  | bl b =>
    cases rx
    have e' : k = b := e
    subst e'
    exact wpAny_truthy_bool ⟨H, I, q⟩
  | int i =>
    obtain ⟨t, rfl⟩ := rx
    have e' : k = (i != 0) := e
    subst e'
    exact PySem.P.truthy_int ⟨H, I, q⟩
  | str y =>
    obtain ⟨t, rfl⟩ := rx
    obtain ⟨hy, e'⟩ : y.length ≤ sizeLine ∧ k = ((y.length : Int) != 0) := e
    subst e'
    exact PySem.P.truthy_str (by omega) ⟨H, I.tok _, q⟩
  | iY y =>
    obtain ⟨t, rfl⟩ := rx
    obtain ⟨hy, e'⟩ : y.size ≤ sizeLine ∧ k = ((y.size : Int) != 0) := e
    subst e'
    exact PySem.W.truthy_bytes (by omega) ⟨H, I.tok _, q⟩
  | ref p =>
    cases rx
    have e' : (∃ xs, a8 X.K H p xs ∧ k = !xs.isEmpty) ∨ (∃ xs, cB X.K H p xs ∧ k = !xs.isEmpty) ∨ ∃ ao, H p = some (.dK ao) ∧ k = !ao.isEmpty := e
    rcases e' with ⟨xs, hx, e'⟩ | ⟨xs, hx, e'⟩ | ⟨ao, hx, e'⟩
    · subst e'
      obtain ⟨its, r, pl, hz⟩ := I.list hx
      have hlen := r.length
      exact wpAny_truthy_list pl.isList (by simp only [List.size_toArray]; omega) ⟨H, I.tok _, by rw [oP r]; exact q⟩
    · subst e'
      obtain ⟨its, r, pl, hz⟩ := I.tuple hx
      have hlen := r.length
      exact truthy_tuple pl (by simp only [List.size_toArray]; omega) ⟨H, I.tok _, by rw [oP r]; exact q⟩
    · subst e'
      obtain ⟨hz, hS, vs, r, m⟩ : ao.length ≤ sizeLine ∧ (p == sysModules) = false ∧ ∃ vs, KV ao vs ∧ s.heap.DictOf (bS X.prog X.w) p vs := I.hok p _ hx
      have hlen : ao.length = vs.length := Paired.length r
      exact wpAny_truthy_dict hS m (by omega) ⟨H, I.tok _, by rw [wX r]; exact q⟩
  | _ => exact (show False from e).elim
theorem wY : OpR X (binaryOp .Add) (fun x y H Q => ∃ i j, x = .str i ∧ y = .str j ∧ i.length + j.length ≤ sizeLine ∧ Q (.str (i ++ j)) H) := by
  intro pins s σ H x y v u Q I rx ry h
  obtain ⟨i, j, rfl, rfl, hz, q⟩ := h
  obtain ⟨t, rfl⟩ := rx
  obtain ⟨t', rfl⟩ := ry
  exact add_str (fun t' tk => ⟨.str (i ++ j), H, I.tok _, ⟨_, rfl⟩, q⟩) hz
theorem vals1 {x : V} {us : List Value} (r : Vals [x] us) : ∃ u, us = [u] ∧ RelV x u := by
  cases r with
  | cons r1 r2 => cases r2; exact ⟨_, rfl, r1⟩
theorem vals2 {x y : V} {us : List Value} (r : Vals [x, y] us) : ∃ u w', us = [u, w'] ∧ RelV x u ∧ RelV y w' := by
  cases r with
  | cons r1 r2 =>
    cases r2 with
    | cons r3 r4 => cases r4; exact ⟨_, _, rfl, r1, r3⟩
theorem Bv : cq X (.builtin "abs") (fun xs H Q => ∃ i, xs = [.int i] ∧ Q (.int (if i < 0 then -i else i)) H) := by
  intro pins s σ H xs us Q I r h
  obtain ⟨i, rfl, q⟩ := h
  obtain ⟨u, rfl, t, rfl⟩ := vals1 r
  exact call_abs_int fun u tk => ⟨.int (if i < 0 then -i else i), H, I.tok _, ⟨_, rfl⟩, q⟩
theorem yO (hc : X.calm = true) : cq X (.builtin "max") (fun xs H Q => ∃ i j, xs = [.int i, .int j] ∧ Q (.int (if j > i then j else i)) H) := by
  intro pins s σ H xs us Q I r h
  obtain ⟨i, j, rfl, q⟩ := h
  obtain ⟨u, w', rfl, ⟨t, rfl⟩, ⟨t', rfl⟩⟩ := vals2 r
  refine max_two_ints (I.ok.hd hc) fun h' tk k => ⟨_, H, I.kept k, ?_, q⟩
  by_cases hj : j > i
  · rw [if_pos hj, if_pos hj]; exact ⟨_, rfl⟩
  · rw [if_neg hj, if_neg hj]; exact ⟨_, rfl⟩
theorem lX (hc : X.calm = true) : cq X (.builtin "min") (fun xs H Q => ∃ i j, xs = [.int i, .int j] ∧ Q (.int (if j < i then j else i)) H) := by
  intro pins s σ H xs us Q I r h
  obtain ⟨i, j, rfl, q⟩ := h
  obtain ⟨u, w', rfl, ⟨t, rfl⟩, ⟨t', rfl⟩⟩ := vals2 r
  refine min_two_ints (I.ok.hd hc) fun h' tk k => ⟨_, H, I.kept k, ?_, q⟩
  by_cases hj : j < i
  · rw [if_pos hj, if_pos hj]; exact ⟨_, rfl⟩
  · rw [if_neg hj, if_neg hj]; exact ⟨_, rfl⟩
theorem yP : cq X (.type "int") (fun xs H Q => (∃ i, xs = [.int i] ∧ Q (.int i) H) ∨ ∃ k, xs = [.bl k] ∧ Q (.int (if k then 1 else 0)) H) := by
  intro pins s σ H xs us Q I r h
  rcases h with ⟨i, rfl, q⟩ | ⟨k, rfl, q⟩
  · obtain ⟨u, rfl, t, rfl⟩ := vals1 r
    exact call_int_int ⟨.int i, H, I, ⟨_, rfl⟩, q⟩
  · obtain ⟨u, rfl, r1⟩ := vals1 r
    cases r1
    exact call_int_bool ⟨.int (if k then 1 else 0), H, I.tok _, ⟨_, rfl⟩, q⟩
noncomputable def Gi (K : PySem.W.Frag) (x : V) (H : Hp) (n : Nat) : Prop :=
  match x with
  | .str y => y.length ≤ sizeLine ∧ n = y.length
  | .iY y => y.size ≤ sizeLine ∧ n = y.size
  | .ref p => (∃ xs, a8 K H p xs ∧ n = xs.length) ∨ ∃ xs, cB K H p xs ∧ n = xs.length
  | _ => False
theorem Bw : cq X (.builtin "len") (fun xs H Q => ∃ x n, xs = [x] ∧ Gi X.K x H n ∧ Q (.int n) H) := by
  intro pins s σ H xs us Q I r h
  obtain ⟨x, n, rfl, e, q⟩ := h
  obtain ⟨u, rfl, rx⟩ := vals1 r
  have hl := jc
  have hs : sizeLine = 16777216 := sizeLine_eq
  cases x with
  | str y =>
    obtain ⟨t, rfl⟩ := rx
    obtain ⟨hy, e'⟩ : y.length ≤ sizeLine ∧ n = y.length := e
    subst e'
    exact len_str (by omega) ⟨.int _, H, I.tok _, ⟨_, rfl⟩, q⟩
  | iY y =>
    obtain ⟨t, rfl⟩ := rx
    obtain ⟨hy, e'⟩ : y.size ≤ sizeLine ∧ n = y.size := e
    subst e'
    exact PySem.W.len_bytes (by omega) ⟨.int _, H, I.tok _, ⟨_, rfl⟩, q⟩
  | ref p =>
    cases rx
    have e' : (∃ xs, a8 X.K H p xs ∧ n = xs.length) ∨ ∃ xs, cB X.K H p xs ∧ n = xs.length := e
    rcases e' with ⟨xs, hx, e'⟩ | ⟨xs, hx, e'⟩
    · subst e'
      obtain ⟨its, r', pl, hz⟩ := I.list hx
      have hlen := r'.length
      exact Calls.call_len_list pl.isList (by simp only [List.size_toArray]; omega) ⟨.int xs.length, H, I.tok _, ⟨_, by simp only [List.size_toArray]; rw [hlen]⟩, q⟩
    · subst e'
      obtain ⟨its, r', pl, hz⟩ := I.tuple hx
      have hlen := r'.length
      exact len_tuple pl (by simp only [List.size_toArray]; omega) ⟨.int xs.length, H, I.tok _, ⟨_, by simp only [List.size_toArray]; rw [hlen]⟩, q⟩
  | _ => exact (show False from e).elim
end
structure By (h : Heap) (x dx C : Addr) (mA : Str → Option Value) : Prop where
  obj : h.get? x = some (PySem.W.instObj C dx)
  ns : h.Ns1 dx mA
  ne : dx ≠ x
theorem yQ {h : Heap} {dx : Addr} {mA : Str → Option Value} (n : h.Ns1 dx mA) : ∃ od, h.get? dx = some od ∧ ∀ name, PySem.W.lookIn name od = some (mA name) := by
  obtain ⟨o, es, ep, ho, hd, hk, _, hm⟩ := n
  refine ⟨o, ho, fun name => ?_⟩
  have e := hm name
  unfold nsFind findBy at e
  rw [← Array.find?_toList] at e
  unfold PySem.W.lookIn
  rw [hd]
  dsimp only
  split
  · rename_i y q
    rw [q] at e
    exact congrArg some e
  · rename_i q
    rw [q] at e
    have a : es.toList.any (·.refKey) = false := by
      rw [List.any_eq_false]
      intro y hy
      obtain ⟨z, t, wZ⟩ := hk y (Array.mem_toList_iff.mp hy)
      simp [DictEntry.refKey, wZ]
    have a' : ¬ es.toList.any (·.refKey) = true := by rw [a]; exact Bool.false_ne_true
    rw [if_neg a']
    exact congrArg some e
theorem By.look {h : Heap} {x dx C : Addr} {mA : Str → Option Value} (I : By h x dx C mA) : ∃ od, PySem.W.InstAt h x (PySem.W.instObj C dx) C (some od) ∧ ∀ name, PySem.W.lookIn name od = some (mA name) :=
  let ⟨od, ho, hl⟩ := yQ I.ns
  ⟨od, ⟨I.obj, rfl, rfl, ho⟩, hl⟩
theorem iZ.some_of {v : V} {o : Option Value} (r : iZ (some v) o) : ∃ u, o = some u ∧ RelV v u := by
  cases o with
  | none => exact (show False from r).elim
  | some u => exact ⟨u, rfl, r⟩
section
variable {P : Program} {w : World} {H H' : Hp} {h h' : Heap} {a C dx : Addr} {fs NA : List (Str × V)}
theorem Ei (hok : cJ P w H h) (e : H a = some (.ins C dx fs)) : ∃ mA, By h a dx C mA ∧ (∀ f, iZ (fs.lookup f) (mA f)) ∧ PySem.Within mA (fs.map (·.1)) ∧ fs.length ≤ 1000 ∧ H dx = some (.own a) := by
  obtain ⟨d, z, ne, ob, mA, n, r, q⟩ := (show ObjOk P w H h a (.ins C dx fs) from hok a _ e)
  exact ⟨mA, ⟨ob, n, ne⟩, r, q, z, d⟩
end
structure Gj (K : PySem.W.Frag) (C : Addr) : Prop where
  pg : PySem.W.plainGet K C Str.empty = true
  hd : PySem.W.hasDictIn K C = true
  po : PySem.W.plainOver K C = true
  sa : PySem.W.findIn K (.ref C) "__setattr__" = some (some (.builtin "object.__setattr__"))
theorem Gj.get {K : PySem.W.Frag} {C : Addr} (c : Gj K C) (f : Str) : PySem.W.plainGet K C f = true := c.pg
section
variable {X : Cx} {pins : List (Addr × Obj)} {σ : St} {H : Hp} {s : Shared} {A : Around} {E : Value → Shared → Prop} {Q : Value → Shared → Prop} {c : Value} {b : Bool}
inductive fX (K : PySem.W.Frag) (H : Hp) : V → Value → Prop where
  | aq : fX K H .aq (.type "NoneType")
  | bl (x : Bool) : fX K H (.bl x) (.type "bool")
  | int (i : Int) : fX K H (.int i) (.type "int")
  | str (x : Str) : fX K H (.str x) (.type "str")
  | vM (x : UInt64) : fX K H (.vM x) (.type "float")
  | lst {a : Addr} {xs : List V} (e : H a = some (.lst xs)) : fX K H (.ref a) (.type "list")
  | fm {a : Addr} {o : Obj} {xs : List V} (e : H a = some (.fm o (.lst xs))) : fX K H (.ref a) (.type "list")
  | tup {a : Addr} {xs : List V} (e : H a = some (.tup xs)) : fX K H (.ref a) (.type "tuple")
  | dK {a : Addr} {ao : List (Key × V)} (e : H a = some (.dK ao)) : fX K H (.ref a) (.type "dict")
  | dT {a : Addr} {ao : List (List Key × V)} (e : H a = some (.dT ao)) : fX K H (.ref a) (.type "dict")
  | ins {a C dx : Addr} {fs : List (Str × V)} (e : H a = some (.ins C dx fs)) (cl : Gj K C) (ha : PySem.W.findIn K (.ref C) "__class__" = some (some (.builtin "object.__class__")))
      (hn : PySem.W.specialIn K (.builtin "object.__class__") "__get__" = some (some (.builtin "getset_descriptor.__get__"))) (Kx : PySem.W.takesIn K (.builtin "object.__class__") = some true)
      (hm : PySem.W.mroIn K C (.type "object") = some true) : fX K H (.ref a) (.ref C)
theorem yR {x : V} {u t : Value} (I : Inv X pins σ H s) (rx : RelV x u) (ty : fX X.K H x t) (e : PySem.W.kitOne X.K t c = some b) (h : ∀ tk, Q (.bool b) { s with toks := tk }) :
    wpAny (model X.prog X.w) A (call (.builtin "isinstance") [u, c]) Q E s := by
  cases ty with
  | aq => cases (show u = Value.none from rx); exact PySem.W.kia_one PySem.W.kitx_none I.fA True.intro e (fun z => nomatch z) h
  | bl y => cases (show u = Value.bool y from rx); exact PySem.W.kia_one PySem.W.kitx_bool I.fA True.intro e (fun z => nomatch z) h
  | int i => obtain ⟨t, q⟩ := (show ∃ t, u = Value.int i t from rx); cases q; exact PySem.W.kia_one PySem.W.kitx_int I.fA True.intro e (fun z => nomatch z) h
  | str y => obtain ⟨t, q⟩ := (show ∃ t, u = Value.str y t from rx); cases q; exact PySem.W.kia_one PySem.W.kitx_str I.fA True.intro e (fun z => nomatch z) h
  | vM y => obtain ⟨t, q⟩ := (show ∃ t, u = Value.float y t from rx); cases q; exact PySem.W.kia_one PySem.W.kitx_float I.fA True.intro e (fun z => nomatch z) h
  | @lst a xs ea =>
    cases (show u = Value.ref a from rx)
    obtain ⟨_, _, n, _, h1⟩ := (show ObjOk X.prog X.w H s.heap a (.lst xs) from I.hok a _ ea)
    exact PySem.W.kia_one PySem.W.kitx_list I.fA ⟨_, h1, rfl⟩ e (fun z => nomatch z) h
  | @fm a ob xs ea =>
    cases (show u = Value.ref a from rx)
    obtain ⟨_, _, _, n, _, h1⟩ := (show ObjOk X.prog X.w H s.heap a (.fm ob (.lst xs)) from I.hok a _ ea)
    exact PySem.W.kia_one PySem.W.kitx_list I.fA ⟨_, h1, rfl⟩ e (fun z => nomatch z) h
  | @tup a xs ea =>
    cases (show u = Value.ref a from rx)
    obtain ⟨_, _, _, p⟩ := (show ObjOk X.prog X.w H s.heap a (.tup xs) from I.hok a _ ea)
    obtain ⟨o, h1, h2, _⟩ := p
    exact PySem.W.kia_one PySem.W.kitx_tuple I.fA ⟨o, h1, h2⟩ e (fun z => nomatch z) h
  | @dK a ao ea =>
    cases (show u = Value.ref a from rx)
    obtain ⟨_, _, vs, _, p⟩ := (show ObjOk X.prog X.w H s.heap a (.dK ao) from I.hok a _ ea)
    obtain ⟨o, es, ep, h1, h2, _⟩ := p
    exact PySem.W.kia_one PySem.W.kitx_dict I.fA ⟨o, h1, h2.1⟩ e (fun z => nomatch z) h
  | @dT a ao ea =>
    cases (show u = Value.ref a from rx)
    obtain ⟨_, _, xs, _, o, es, ep, h1, h2, _⟩ := (show ObjOk X.prog X.w H s.heap a (.dT ao) from I.hok a _ ea)
    exact PySem.W.kia_one PySem.W.kitx_dict I.fA ⟨o, h1, h2.1⟩ e (fun z => nomatch z) h
  | @ins a C dx fs ea cl ha hn Kx hm =>
    cases (show u = Value.ref a from rx)
    obtain ⟨mA, O, _⟩ := Ei I.hok ea
    obtain ⟨od, J, _⟩ := O.look
    exact PySem.W.kia_one (PySem.W.kitx_own (cl.get _) cl.hd ha hn Kx hm) I.fA J e (fun z => nomatch z) h
end
structure bV (k : Nat) (A : Around) : Prop where
  hd : A.handled = none
  dp : A.depth + 3 * k + 5 < recursionLimit
  un : A.units + 16 * k + 200 < cLine
theorem bV.mono {j k : Nat} {A : Around} (r : bV k A) (h : j ≤ k) : bV j A := ⟨r.hd, by have := r.dp; omega, by have := r.un; omega⟩
theorem bV.deeper {k : Nat} {A : Around} (r : bV (k + 1) A) (env : Env) : bV k (A.deeper env) :=
  ⟨r.hd, by have := r.dp; show A.depth + 1 + 3 * k + 5 < _; omega, by have := r.un; show A.units + 3 + 16 * k + 200 < _; omega⟩
theorem bV.depth {k : Nat} {A : Around} (r : bV k A) : A.depth < recursionLimit := by have := r.dp; omega
theorem bV.units {k : Nat} {A : Around} (r : bV k A) : A.units + 64 < cLine := by have := r.un; omega
noncomputable def Mq : TA := fun _ H Q => Q [] H
noncomputable def Jt (ta : TE) (tr : TA) : TA := fun σ H Q => ta σ H fun x H1 => tr σ H1 fun xs H2 => Q (x :: xs) H2
section
variable {X : Cx} {e : Expr} {es : List Expr} {te : TE} {t : TA} {pos : Pos}
theorem aN : PA X [] Mq := ⟨fun _ _ _ _ H Q I h => Calls.spliced_nil ⟨[], H, I, .nil, h⟩⟩
theorem aw (ha : PE X e te) (hr : PA X es t) (hs : starEach (e :: es) X.env = (false, eval e X.env) :: starEach es X.env := by rfl) : PA X (e :: es) (Jt te t) := by
  refine ⟨?_⟩
  intro pos pins s σ H Q I h
  rw [hs]
  show wpAny _ _ (spliced ((false, eval e X.env) :: backTo pos (starEach es X.env))) _ _ s
  refine Calls.spliced_cons (thn (ha pins s σ H _ I h) fun u s1 ⟨x, H1, I1, r1, q1⟩ => ?_)
  exact thn (hr pos pins s1 σ H1 _ I1 q1) fun us s2 ⟨xs, H2, I2, r2, q2⟩ => ⟨x :: xs, H2, I2, .cons r1 r2, q2⟩
noncomputable def Mr (t : TA) : TE := fun σ H Q => t σ H fun xs H1 => xs.length ≤ sizeLine ∧ ∀ p, H1 p = none → Q (.ref p) (upd H1 p (.tup xs))
noncomputable def Ms (t : TA) : TE := fun σ H Q => t σ H fun xs H1 => xs.length ≤ sizeLine ∧ ∀ p, H1 p = none → Q (.ref p) (upd H1 p (.lst xs))
theorem Gk {x1} (h : PA X es t) : PE X (.Tuple es x1 pos) (Mr t) := by
  refine ⟨?_⟩
  intro pins s σ H Q I hq
  refine wpAny_Tuple_spliced (thn (h pos pins s σ H _ I hq) fun us s1 ⟨xs, H1, I1, r, z, q⟩ => ⟨by rw [← r.length]; exact z, ?_⟩)
  have hf : H1 s1.heap.objs.size = none := I1.hok.fresh (Nat.le_refl _)
  refine ⟨.ref s1.heap.objs.size, upd H1 s1.heap.objs.size (.tup xs), I1.laid (t' := s1.toks) (fun b u e => Heap.get?_push_of_some _ e) (Nat.le_refl _) ?_, rfl, q _ hf⟩
  exact ⟨z, us, r, ⟨_, Heap.get?_push_size _ rfl, rfl, _, rfl, rfl⟩⟩
theorem lY (h : PA X es t) : PE X (.List es pos) (Ms t) := by
  refine ⟨?_⟩
  intro pins s σ H Q I hq
  refine wpAny_List_spliced (thn (h pos pins s σ H _ I hq) fun us s1 ⟨xs, H1, I1, r, z, q⟩ => ⟨by rw [← r.length]; exact z, ?_⟩)
  have hf : H1 s1.heap.objs.size = none := I1.hok.fresh (Nat.le_refl _)
  refine ⟨.ref s1.heap.objs.size, upd H1 s1.heap.objs.size (.lst xs), I1.laid (t' := s1.toks) (fun b u e => Heap.get?_push_of_some _ e) (Nat.le_refl _) ?_, rfl, q _ hf⟩
  exact ⟨z, us, 0, r, Heap.get?_push_size _ rfl⟩
end
noncomputable abbrev Sp := List V → Hp → VK → XK → Prop
noncomputable abbrev j9 := List Env → Hp → Shared → XK → Value → Shared → Prop
structure w5 (P : Program) (w : World) (K : PySem.W.Frag) (mg : Str → Option Value) (base : Heap) (A : Around) (outer : List Env) (s : Shared) (H : Hp) : Prop where
  frames : A.frames = some outer
  mod : Mod K mg base
  bs : ∀ b o, base.get? b = some o → s.heap.get? b = some o ∧ H b = none
  bsz : base.objs.size ≤ s.heap.objs.size
  funs : s.heap.FunFrames base outer
  frf : ∀ b ∈ fo outer, H b = none
  hok : cJ P w H s.heap
  bare : AllBare s.gens
noncomputable def CE (outer : List Env) (P : Program) (w : World) (H : Hp) (s : Shared) (Q : VK) (u : Value) (s' : Shared) : Prop :=
  ∃ v H', s'.os = s.os ∧ Gn s.gens.size s'.gens ∧ Un (fo outer) [] H H' s.heap s'.heap ∧ cJ P w H' s'.heap ∧ RelV v u ∧ Q v H'
noncomputable def CR (CX : j9) (outer : List Env) (P : Program) (w : World) (H : Hp) (s : Shared) (Q : VK) (E : XK) (r : Result) (s' : Shared) : Prop :=
  match r with
  | .ok (.ret u) => CE outer P w H s Q u s'
  | .ok _ => False
  | .error e => CX outer H s E e s'
structure FnOk (P : Program) (w : World) (K : PySem.W.Frag) (mg : Str → Option Value) (base : Heap) (CX : j9) (k : Nat) (f : Addr) (fd : FuncData) (ps : List Str) (sp : Sp) : Prop where
  len : ∀ vs H Q E, sp vs H Q E → vs.length = ps.length
  run : ∀ (A : Around) (outer : List Env) (s : Shared) (H : Hp) (args : Args) (us : List Value) (vs : List V) (Q : VK) (E : XK), bV k A → w5 P w K mg base A outer s H → BindsTo s fd args (ps.zip us) → Vals vs us → sp vs H Q E →
    codeAny (model P w) A (.call (.ref f) args) (CR CX outer P w H s Q E) s
theorem FnOk.imp {P : Program} {w : World} {K : PySem.W.Frag} {mg : Str → Option Value} {base : Heap} {CX : j9} {k : Nat} {f : Addr} {fd : FuncData} {ps : List Str} {sp Ky : Sp} (F : FnOk P w K mg base CX k f fd ps sp)
    (h : ∀ vs H Q E, Ky vs H Q E → sp vs H Q E) : FnOk P w K mg base CX k f fd ps Ky :=
  ⟨fun vs H Q E q => F.len vs H Q E (h _ _ _ _ q), fun A outer s H args us vs Q E hr he hb hv hs => F.run A outer s H args us vs Q E hr he hb hv (h _ _ _ _ hs)⟩
section
variable {X : Cx} {pins : List (Addr × Obj)} {σ : St} {H : Hp} {s s' : Shared}
theorem Inv.Mt (I : Inv X pins σ H s) : w5 X.prog X.w X.K X.mg X.base X.A X.stack s H :=
  ⟨I.ok.frames, I.ok.mod, I.bs, Nat.le_trans I.ok.bsz I.sz, I.stack, I.pV, I.hok, I.bare.1⟩
theorem Inv.after {Q : VK} {u : Value} (I : Inv X pins σ H s) (h : CE X.stack X.prog X.w H s Q u s') : EP X pins σ Q u s' := by
  obtain ⟨v, H', os, bare, un, hok, r, q⟩ := h
  obtain ⟨hh, g, d, t, Dn⟩ := s'
  obtain rfl : Dn = s.os := os
  exact ⟨v, H', I.call (h' := hh) (g' := g) (d' := d) (t' := t) (ch := []) un hok bare (fun b z => absurd z (by simp)), r, q⟩
end
noncomputable def Dp (sp : Sp) (qI : List V) (E : XK) (t : TA) : TE := fun σ H Q => t σ H fun vs H1 => sp (vs ++ qI) H1 Q E
noncomputable def Binds (K : PySem.W.Frag) (fd : FuncData) (ps : List Str) (ds : List Value) : Prop :=
  ∀ (s : Shared) (us : List Value), K.In s.heap → (us ++ ds).length = ps.length → BindsTo s fd ⟨us, []⟩ (ps.zip (us ++ ds))
theorem Binds.all {K : PySem.W.Frag} {fd : FuncData} {ps : List Str} (h : ∀ us : List Value, us.length = ps.length → bindArgs fd ⟨us, []⟩ = pure (ps.zip us)) : Binds K fd ps [] := fun s us _ hl => by
  rw [List.append_nil] at hl ⊢
  exact .of_eq (h us hl)
noncomputable def Passes (CX : j9) (X : Cx) (E : XK) : Prop := ∀ (pins : List (Addr × Obj)) (σ : St) (H : Hp) (s : Shared) (e : Value) (s' : Shared), Inv X pins σ H s → CX X.stack H s E e s' → X.xe e s'
section
variable {X : Cx} {CX : j9} {k : Nat} {f C : Addr} {fd : FuncData} {ps : List Str} {sp : Sp} {qI : List V} {ds : List Value} {E : XK} {x m : Str} {p pos apos : Pos} {e o : Expr} {es : List Expr} {ta : TE} {t : TA}
theorem Gm {pins : List (Addr × Obj)} {σ : St} {H : Hp} {s : Shared} {Q : VK} {us : List Value} {vs : List V} (F : FnOk X.prog X.w X.K X.mg X.base CX k f fd ps sp) (hr : bV k X.A) (hb : Binds X.K fd ps ds) (hd : Vals qI ds) (hx : Passes CX X E)
    (I : Inv X pins σ H s) (r : Vals vs us) (h : sp (vs ++ qI) H Q E) : wpAny (model X.prog X.w) X.A (call (.ref f) us) (EP X pins σ Q) X.xe s := by
  have r2 : Vals (vs ++ qI) (us ++ ds) := r.append hd
  have hl : (us ++ ds).length = ps.length := by rw [← r2.length]; exact F.len _ _ _ _ h
  refine wpAny_call (codeAny_mono (F.run X.A X.stack s H ⟨us, []⟩ (us ++ ds) (vs ++ qI) Q E hr I.Mt (hb s us I.fA hl) r2 h) fun r s' hq => ?_)
  cases r with
  | error e => exact hx pins σ H s e s' I hq
  | ok fl =>
    cases fl with
    | ret u => exact I.after hq
    | next => exact False.elim hq
    | brk => exact False.elim hq
    | cont => exact False.elim hq
theorem dF (F : FnOk X.prog X.w X.K X.mg X.base CX k f fd ps sp) (hr : bV k X.A) (hg : Gl X x) (hm : X.mg x = some (.ref f)) (hk : PySem.W.keepIn X.K (.ref f) = true) (hb : Binds X.K fd ps ds) (hd : Vals qI ds) (hx : Passes CX X E)
    (ha : PA X (e :: es) t) (gj : (x == ("__debug__" : Str)) = false := by decide) (he : starEach (e :: es) X.env = (false, eval e X.env) :: starEach es X.env := by rfl) (eQ : (backTo pos (starEach es X.env)).any (·.1) = false := by rfl) :
    PE X (.Call (.Name x p) (e :: es) [] pos) (Dp sp qI E t) := by
  refine ⟨?_⟩
  intro pins s σ H Q I h
  refine wpAny_Call_Name_kw (nu I hg hm ?_ gj)
  refine PySem.W.callWith_K (h₀ := X.base) I.ok.mod.kin hk (thn (ha pos pins s σ H _ I h) fun us s1 ⟨vs, H1, I1, r, q⟩ => ⟨I1.fA, ?_⟩) he eQ
  exact Gm F hr hb hd hx I1 r q
end
structure aJ (N P : List Str) (sc : Scope) : Prop where
  kind : sc.kind = .function
  co : sc.isCoroutine = false
  gen : sc.isGenerator = false
  nd : N.Nodup
  pre : N.take P.length = P
  par : ∀ x ∈ P, sc.names.lookup x = some .local ∨ sc.names.lookup x = some .cell
  nofree : ∀ y ∈ sc.names, y.2 ≠ .free
theorem qJ {kindOf : Str → Option NameKind} {x : Str} : ∀ {binds : List (Str × Value)} {m : Str → Option Value}, (∀ v, (x, v) ∉ binds) → bindL kindOf binds m x = m x
  | [], _, _ => rfl
  | (n, v) :: r, m, h => by
    unfold bindL
    rw [qJ fun w hw => h w (List.mem_cons_of_mem _ hw)]
    split
    · have : x ≠ n := by rintro rfl; exact h v List.mem_cons_self
      simp [this]
    · rfl
theorem qK {kindOf : Str → Option NameKind} {x : Str} : ∀ {binds : List (Str × Value)} {m : Str → Option Value}, (∀ v, (x, v) ∉ binds) → bindC kindOf binds m x = m x
  | [], _, _ => rfl
  | (n, v) :: r, m, h => by
    unfold bindC
    rw [qK fun w hw => h w (List.mem_cons_of_mem _ hw)]
    split
    · rfl
    · have : x ≠ n := by rintro rfl; exact h v List.mem_cons_self
      simp [this]
theorem qM {kindOf : Str → Option NameKind} {x : Str} {v : Value} : ∀ {P : List Str} {vs : List Value} {i : Nat} {m : Str → Option Value}, P.Nodup → P[i]? = some x → vs[i]? = some v → kindOf x = some .local →
    bindL kindOf (P.zip vs) m x = some v
  | [], _, _, _, _, h, _, _ => by simp at h
  | _ :: _, [], _, _, _, _, h, _ => by simp at h
  | p :: P, w :: vs, 0, m, nd, h1, h2, hk => by
    simp at h1 h2; subst h1; subst h2
    show bindL kindOf ((p, w) :: P.zip vs) m p = _
    unfold bindL
    rw [qJ fun v hv => (List.nodup_cons.mp nd).1 (List.of_mem_zip hv).1, if_pos hk]
    simp
  | p :: P, w :: vs, i + 1, m, nd, h1, h2, hk => by
    show bindL kindOf ((p, w) :: P.zip vs) m x = _
    unfold bindL
    exact qM (i := i) (List.nodup_cons.mp nd).2 (by simpa using h1) (by simpa using h2) hk
theorem qN {kindOf : Str → Option NameKind} {x : Str} {v : Value} : ∀ {P : List Str} {vs : List Value} {i : Nat} {m : Str → Option Value}, P.Nodup → P[i]? = some x → vs[i]? = some v → kindOf x ≠ some .local →
    bindC kindOf (P.zip vs) m x = some v
  | [], _, _, _, _, h, _, _ => by simp at h
  | _ :: _, [], _, _, _, _, h, _ => by simp at h
  | p :: P, w :: vs, 0, m, nd, h1, h2, hk => by
    simp at h1 h2; subst h1; subst h2
    show bindC kindOf ((p, w) :: P.zip vs) m p = _
    unfold bindC
    rw [qK fun v hv => (List.nodup_cons.mp nd).1 (List.of_mem_zip hv).1, if_neg hk]
    simp
  | p :: P, w :: vs, i + 1, m, nd, h1, h2, hk => by
    show bindC kindOf ((p, w) :: P.zip vs) m x = _
    unfold bindC
    exact qN (i := i) (List.nodup_cons.mp nd).2 (by simpa using h1) (by simpa using h2) hk
noncomputable def start (N : List Str) (vs : List V) : St := vs.map some ++ List.replicate (N.length - vs.length) none
noncomputable def fu (CX : j9) (P : Program) (w : World) (K : PySem.W.Frag) (mg : Str → Option Value) (base : Heap) (N : List Str) (qual : Str) (scope : Scope) (f : Addr) (cd : Value) (A : Around) (outer : List Env) (s : Shared) (H : Hp) (E : XK) : Cx where
  prog := P
  w := w
  K := K
  mg := mg
  base := base
  A := A.deeper (envOfC qual scope s.heap.objs.size f cd)
  N := N
  s₀ := s
  H₀ := H
  env := envOfC qual scope s.heap.objs.size f cd
  outer := outer
  stack := envOfC qual scope s.heap.objs.size f cd :: outer
  ex := []
  calm := true
  fn := fun _ => true
  pn := []
  xe := fun e s' => wpAny (model P w) (A.deeper (envOfC qual scope s.heap.objs.size f cd)) (leaving (envOfC qual scope s.heap.objs.size f cd) e) (fun _ bw => CX outer H s E e bw) (fun e' bw => CX outer H s E e' bw) s'
theorem sU {sc : Scope} {n : Nat} {x : Str} (h : sc.names.lookup x = some .cell) : ∃ c, (cellsFrom n sc.names []).lookup x = some c := by
  have q := PySem.W.cellsFrom_some sc.names n [] (.inl h)
  exact Option.isSome_iff_exists.mp q
theorem yS {CX : j9} {P : Program} {w : World} {K : PySem.W.Frag} {mg : Str → Option Value} {base : Heap} {N ps : List Str} {qual : Str} {scope : Scope} {f : Addr} {cd : Value} {A : Around} {outer : List Env} {s s1 : Shared} {H : Hp} {E : XK} {us : List Value} {vs : List V}
    (S : aJ N ps scope) (hd : A.handled = none) (e0 : w5 P w K mg base A outer s H) (hl : vs.length = ps.length) (r : Vals vs us)
    (x : InCallC s s.heap.objs.size (bindL (envOfC qual scope s.heap.objs.size f cd).kindOf (ps.zip us) fun _ => none) (cellsFrom (s.heap.objs.size + 1) scope.names []) (bindC (envOfC qual scope s.heap.objs.size f cd).kindOf (ps.zip us) fun _ => none) s1) :
    Inv (fu CX P w K mg base N qual scope f cd A outer s H E) [] (start N vs) H s1 := by
  have eQ : ps.length ≤ N.length := by have := congrArg List.length S.pre; rw [List.length_take] at this; omega
  obtain ⟨h1, tk, rfl, hk⟩ := x.done
  have Gp : ∀ b : Addr, b ∉ (fu CX P w K mg base N qual scope f cd A outer s H E).ex := fun b z => absurd (show b ∈ ([] : List Addr) from z) (by simp)
  refine ⟨⟨e0.mod, S.kind, rfl, rfl, Nat.le_refl _, fun y z c h1 h2 => ?_, fun y hy => ?_, fun y c _ h => ?_, fun _ => hd, Around.frames_deeper e0.frames, .inr ⟨rfl, rfl⟩, fun b z => absurd z (Gp b), e0.bs, e0.bsz, fun b _ _ => Gp b, fun b z => absurd z (Gp b), e0.funs, e0.frf⟩,
    rfl, ⟨e0.bare, Nat.le_refl _⟩, Un.kept hk, ⟨_, x.toInCall.ns, fun i y v h1 h2 h3 => ?_⟩, fun y c h => ⟨_, x.cell y c h⟩, e0.hok.fresh (Nat.le_refl _), fun y c h => ?_, fun p hp => absurd (show p ∈ ([] : List (Addr × Obj)) from hp) (by simp), e0.hok.kept hk, ?_⟩
  · exact name_of_addr x.apart (PySem.mem_of_lookup h1) (PySem.mem_of_lookup h2)
  · have hy : scope.names.lookup y = some .cell ∨ scope.names.lookup y = some .free := hy
    rcases hy with hy | hy
    · exact sU hy
    · exact absurd rfl (S.nofree _ (PySem.mem_of_lookup hy))
  · exact Nat.le_of_lt (x.above y c (PySem.mem_of_lookup h))
  · have hi : i < vs.length := by
      unfold start at h2
      by_cases hi : i < vs.length
      · exact hi
      · rw [List.getElem?_append_right (by simpa using hi)] at h2
        rw [List.getElem?_replicate] at h2
        split at h2 <;> cases h2
    have ha : vs[i]? = some v := by
      unfold start at h2
      rw [List.getElem?_append_left (by simpa using hi), List.getElem?_map] at h2
      cases e : vs[i]? with
      | none => rw [e] at h2; cases h2
      | some a => rw [e] at h2; cases h2; rfl
    obtain ⟨u, hu, rv⟩ := r.get ha
    have hp : ps[i]? = some y := by
      rw [← S.pre, List.getElem?_take_of_lt (by omega)]; exact h1
    have Kz : ps.Nodup := by rw [← S.pre]; exact S.nd.sublist (List.take_sublist _ _)
    refine ⟨u, rv, ?_⟩
    rcases S.par y (List.mem_of_getElem? hp) with k | k
    · exact .inl ⟨k, qM Kz hp hu k⟩
    · obtain ⟨c, e⟩ := sU (n := s.heap.objs.size + 1) k
      refine .inr ⟨.inl k, c, e, ?_⟩
      have q := x.cell y c e
      rw [qN Kz hp hu (by show scope.names.lookup y ≠ _; rw [k]; decide)] at q
      exact q
  · exact e0.hok.fresh (Nat.le_of_lt (x.above y c (PySem.mem_of_lookup h)))
  · unfold start
    show _ = N.length
    rw [List.length_append, List.length_map, List.length_replicate]
    omega
theorem w6 {CX : j9} {P : Program} {w : World} {K : PySem.W.Frag} {mg : Str → Option Value} {base : Heap} {k : Nat} {f : Addr} {name qual : Str} {params : Arguments} {body : List Stmt} {scope : Scope} {dV kV doc pm cy ct oc : Value} {an od : Option Addr}
    {lB : Array (Option Value)} {N ps : List Str} {sp : Sp} (lk : K.lookup f = some ⟨oc, od, .func (PySem.W.fnOf name qual params body scope dV kV doc pm an cy ct), lB⟩) (fD : PySem.W.codeIn K cy qual = true) (S : aJ N ps scope)
    (len : ∀ vs H Q E, sp vs H Q E → vs.length = ps.length)
    (kI : ∀ (A : Around) (outer : List Env) (s : Shared) (H : Hp) (vs : List V) (Q : VK) (E : XK), bV k (A.deeper (envOfC qual scope s.heap.objs.size f cy)) → sp vs H Q E →
      ∃ t, d6 (fu CX P w K mg base N qual scope f cy A outer s H E) body t ∧ t { nx := fun _ H' => Q .aq H', rt := Q } (start N vs) H) :
    FnOk P w K mg base CX (k + 1) f (PySem.W.fnOf name qual params body scope dV kV doc pm an cy ct) ps sp := by
  refine ⟨len, fun A outer s H args us vs Q E hr e0 hb r lC => ?_⟩
  have hl := len _ _ _ _ lC
  have KX : K.In s.heap := e0.mod.kin.keeps fun b o e => (e0.bs b o e).1
  have lim : s.heap.NoLimit := e0.mod.nolimit.keeps fun b o e => (e0.bs b o e).1
  have w9 : ∀ y ∈ ps.zip us, scope.names.lookup y.1 = some .local ∨ (scope.names.lookup y.1 = some .cell ∧ ((cellsFrom (s.heap.objs.size + 1) scope.names []).lookup y.1).isSome = true) := fun ⟨n, v⟩ hy => by
    rcases S.par n (List.of_mem_zip hy).1 with q | q
    · exact .inl q
    · exact .inr ⟨q, PySem.W.cellsFrom_some _ _ _ (.inl q)⟩
  refine codeAny_call_function hr.depth (KX _ _ lk) rfl S.co S.gen rfl (PySem.W.codeRec_of KX fD) (hb _ _ _ _ ?_)
  refine wpAny_newFunctionEnv_cells S.kind w9 fun env he s1 x => ?_
  subst he
  refine ⟨lim.keeps x.toInCall.keep, codeAny_func ?_⟩
  obtain ⟨t, ht, hq⟩ := kI A outer s H vs Q E (hr.deeper _) lC
  have I : Inv (fu CX P w K mg base N qual scope f cy A outer s H E) [] (start N vs) H s1 := yS S hr.hd e0 hl r x
  refine wpAny_mono (ht [] s1 (start N vs) H _ I hq) (fun fl s' hs => ?_) fun e s' hs => hs
  have fin : ∀ {aC : St} {H' : Hp} {v : V} {u : Value}, Inv (fu CX P w K mg base N qual scope f cy A outer s H E) [] aC H' s' → RelV v u → Q v H' → CE outer P w H s Q u s' :=
    fun {aC H' v u} J rv q => ⟨v, H', J.os, J.bare, J.base, J.hok, rv, q⟩
  cases fl with
  | ret u =>
    obtain ⟨v, aC, H', J, rv, q⟩ := hs
    exact fin J rv q
  | next =>
    obtain ⟨aC, H', J, q⟩ := hs
    exact fin (v := V.aq) (u := Value.none) J rfl q
  | brk =>
    obtain ⟨_, _, _, q⟩ := hs
    exact False.elim q
  | cont =>
    obtain ⟨_, _, _, q⟩ := hs
    exact False.elim q
section
variable {X : Cx} {x : Str} {p pos : Pos} {e : Expr} {es : List Expr} {t : TA} {id T : String} {r : List V → Hp → VK → Prop}
noncomputable def Gq (r : List V → Hp → VK → Prop) (t : TA) : TE := fun σ H Q => t σ H fun vs H1 => r vs H1 Q
theorem eR (hc : cq X (.builtin id) r) (hg : Gl X x) (hm : X.mg x = none) (hv : bootBuiltins x = some (.builtin id)) (ha : PA X (e :: es) t) (hn : x ≠ "__name__" := by decide) (gj : (x == ("__debug__" : Str)) = false := by decide)
    (he : starEach (e :: es) X.env = (false, eval e X.env) :: starEach es X.env := by rfl) (eQ : (backTo pos (starEach es X.env)).any (·.1) = false := by rfl) : PE X (.Call (.Name x p) (e :: es) [] pos) (Gq r t) := by
  refine ⟨?_⟩
  intro pins s σ H Q I h
  refine wpAny_Call_Name_kw (fE I hg hm hv ?_ hn gj)
  exact PyProof.Rows.callWith_builtin1 (thn (ha pos pins s σ H _ I h) fun us s1 ⟨vs, H1, I1, r1, q1⟩ => hc pins s1 σ H1 vs us Q I1 r1 q1) he eQ
theorem jK (hc : cq X (.type T) r) (hg : Gl X x) (hm : X.mg x = none) (hv : bootBuiltins x = some (.type T)) (ha : PA X (e :: es) t) (hn : x ≠ "__name__" := by decide) (gj : (x == ("__debug__" : Str)) = false := by decide)
    (he : starEach (e :: es) X.env = (false, eval e X.env) :: starEach es X.env := by rfl) (eQ : (backTo pos (starEach es X.env)).any (·.1) = false := by rfl) : PE X (.Call (.Name x p) (e :: es) [] pos) (Gq r t) := by
  refine ⟨?_⟩
  intro pins s σ H Q I h
  refine wpAny_Call_Name_kw (fE I hg hm hv ?_ hn gj)
  exact PyProof.Rows.callWith_type1 (thn (ha pos pins s σ H _ I h) fun us s1 ⟨vs, H1, I1, r1, q1⟩ => hc pins s1 σ H1 vs us Q I1 r1 q1) he eQ
end
end L2
namespace HT
open PySem PyProof.Rows
section
variable {prog : Program} {w : World} {A : Around} {E : Value → Shared → Prop} {s : Shared}
theorem Ej {t b : Addr} {vs ws : List Value} {Q : Value → Shared → Prop} (ht : IsTup s.heap t vs.toArray) (hb : IsTup s.heap b ws.toArray) (hv : vs ≠ [])
    (h1 : ws = [] → Q (.ref t) s) (h2 : ws ≠ [] → Q (.ref s.heap.objs.size) { s with heap := s.heap.push { cls := .type "tuple", data := .seq (vs ++ ws).toArray } })
    (hsz : vs.length + ws.length ≤ sizeLine) : wpAny (model prog w) A (binaryOp .Add (.ref t) (.ref b)) Q E s := by
  obtain ⟨⟨cls, dd, data, sl⟩, ho, hc, n, hd⟩ := id ht
  obtain ⟨⟨Mu, vV, data2, qO⟩, iB, qP, n2, hd2⟩ := id hb
  simp only at hc hd qP hd2
  subst hc hd qP hd2
  have e : vs.toArray ++ ws.toArray = (vs ++ ws).toArray := by simp
  by_cases hw : ws = []
  · exact concat_meets ⟨_, ho, rfl⟩ ⟨_, iB, rfl⟩ noFill_tuple_add seq_tuple_add PySem.F.slot_tuple_add PySem.F.entry_tuple_add (PySem.F.args_tuple_add_2 _ _)
      (tuple_addW1 t b vs.toArray ws.toArray n n2 dd vV sl qO (by simpa using hv) (by simp [hw])) ⟨ho, iB, h1 hw⟩
  · refine concat_meets ⟨_, ho, rfl⟩ ⟨_, iB, rfl⟩ noFill_tuple_add seq_tuple_add PySem.F.slot_tuple_add PySem.F.entry_tuple_add (PySem.F.args_tuple_add_2 _ _)
      (tuple_addW2 t b vs.toArray ws.toArray n n2 dd vV sl qO (by simpa using hv) (by simpa using hw) (by rw [List.size_toArray, List.size_toArray]; exact hsz)) ⟨ho, iB, ?_⟩
    rw [e]
    exact h2 hw
noncomputable def gI (n d : Nat) : Option Int → Nat
  | none => d
  | some v => if v < 0 then (v + (n : Int)).toNat else min v.toNat n
end
end HT
namespace L2
open PySem PySem.Spec PyProof.Rows
noncomputable abbrev TO := St → Hp → (Option Int → Hp → Prop) → Prop
noncomputable def PO (X : Cx) (e : Option Expr) (t : TO) : Prop :=
  ∀ (pins : List (Addr × Obj)) (s : Shared) (σ : St) (H : Hp) (Q : Option Int → Hp → Prop), Inv X pins σ H s → t σ H Q →
    wpAny (model X.prog X.w) X.A (evalPart e X.env) (fun u s' => ∃ o H', Inv X pins σ H' s' ∧ IsPart u o ∧ Q o H') X.xe s
noncomputable def Ek : TO := fun _ H Q => Q none H
noncomputable def Ju (t : TE) : TO := fun σ H Q => t σ H fun x H1 => ∃ i, x = .int i ∧ Q (some i) H1
section
variable {X : Cx} {e : Expr} {te : TE} {lo hi : Option Expr} {tl th : TO} {pos p2 : Pos}
theorem El : PO X none Ek := by
  intro pins s σ H Q I h
  rw [evalPart_none]
  exact wpAny_pure ⟨none, H, I, .none, h⟩
theorem Em (h : PE X e te) : PO X (some e) (Ju te) := by
  intro pins s σ H Q I hw
  rw [evalPart_some]
  refine thn (h pins s σ H _ I hw) fun u s1 ⟨x, H1, I1, r1, q1⟩ => ?_
  obtain ⟨i, rfl, q⟩ := q1
  obtain ⟨t, rfl⟩ := r1
  exact ⟨some i, H1, I1, .int i t, q⟩
noncomputable def Dq (X : Cx) (r : V → Option Int → Option Int → Hp → VK → Prop) : Prop :=
  ∀ (pins : List (Addr × Obj)) (s : Shared) (σ : St) (H : Hp) (x : V) (v vl vu : Value) (lo hi : Option Int) (sl : Addr) (Q : VK), Inv X pins σ H s → RelV x v → s.heap.IsSliceOf sl vl vu .none → IsPart vl lo → IsPart vu hi → r x lo hi H Q →
    ∃ T id, typeLookup (.type T) "__getitem__" = pure (some (.builtin id)) ∧ s.TypeIs v T ∧ wpAny (model X.prog X.w) X.A (getItem v (.ref sl)) (EP X pins σ Q) X.xe s
noncomputable def NQ (r : V → Option Int → Option Int → Hp → VK → Prop) (te : TE) (tl th : TO) : TE := fun σ H Q => te σ H fun x H1 => tl σ H1 fun l H2 => th σ H2 fun u H3 => r x l u H3 Q
theorem BA {r : V → Option Int → Option Int → Hp → VK → Prop} (hr : Dq X r) (he : PE X e te) (hl : PO X lo tl) (hu : PO X hi th) : PE X (.Subscript e (.Slice lo hi none p2) pos) (NQ r te tl th) := by
  refine ⟨?_⟩
  intro pins s σ H Q I h
  refine Subscript_ (thn (he pins s σ H _ I h) fun v s1 ⟨x, H1, I1, r1, q1⟩ => ?_)
  refine wpAny_Slice (thn (hl pins s1 σ H1 _ I1 q1) fun vl s2 ⟨l, H2, I2, pl, q2⟩ => thn (hu pins s2 σ H2 _ I2 q2) fun vu s3 ⟨u, H3, I3, pu, q3⟩ => ?_)
  rw [evalPart_none]
  refine wpAny_pure ?_
  have I4 : Inv X pins σ H3 { s3 with heap := s3.heap.push { cls := .type "slice", data := .fields #[vl, vu, .none] } } := I3.kept (t' := s3.toks) fun b ob q => Heap.get?_push_of_some _ q
  obtain ⟨T, id, hT, ht, hg⟩ := hr pins { s3 with heap := s3.heap.push { cls := .type "slice", data := .fields #[vl, vu, .none] } } σ H3 x v vl vu l u s3.heap.objs.size Q I4 r1 (Heap.IsSliceOf.new ..) pl pu q3
  show wpAny (model X.prog X.w) X.A (subscriptTail e (.Slice lo hi none p2) v (.ref s3.heap.objs.size)) (EP X pins σ Q) X.xe { s3 with heap := s3.heap.push { cls := .type "slice", data := .fields #[vl, vu, .none] } }
  exact tail_any (ops := [.ref s3.heap.objs.size, v]) ht hT hg (by with_unfolding_all rfl)
noncomputable def xa (xs : List V) (lo hi : Option Int) : List V := (xs.drop (HT.gI xs.length 0 lo)).take (HT.gI xs.length xs.length hi - HT.gI xs.length 0 lo)
theorem u6 (xs : List V) (lo hi : Option Int) : (xa xs lo hi).length ≤ xs.length := by
  unfold xa
  rw [List.length_take, List.length_drop]
  omega
noncomputable def Jv (K : PySem.W.Frag) : R2 := fun x y H Q => ∃ a b xs ys, x = .ref a ∧ y = .ref b ∧ cB K H a xs ∧ cB K H b ys ∧ xs ≠ [] ∧ xs.length + ys.length ≤ sizeLine ∧
  (ys = [] → Q (.ref a) H) ∧ (ys ≠ [] → ∀ p, H p = none → Q (.ref p) (upd H p (.tup (xs ++ ys))))
theorem Vals.ny {xs : List V} {us : List Value} (r : Vals xs us) : us = [] ↔ xs = [] := by
  cases r with
  | nil => simp
  | cons _ _ => simp
theorem En : OpR X (binaryOp .Add) (Jv X.K) := by
  intro pins s σ H x y v u Q I rx ry h
  obtain ⟨a, b, xs, ys, rfl, rfl, ha, hb, hx, hz, q1, q2⟩ := h
  cases rx
  cases ry
  obtain ⟨its, r1, p1, _⟩ := I.tuple ha
  obtain ⟨bW, r2, p2, _⟩ := I.tuple hb
  refine HT.Ej p1 p2 (fun z => hx (r1.ny.mp z)) (fun z => ⟨.ref a, H, I, rfl, q1 (r2.ny.mp z)⟩) (fun z => ?_) (by rw [← r1.length, ← r2.length]; exact hz)
  refine ⟨.ref s.heap.objs.size, _, I.laid (t' := s.toks) (o := .tup (xs ++ ys)) (fun b ob q => Heap.get?_push_of_some _ q) (Nat.le_refl _) ?_, rfl, q2 (fun w => z (r2.ny.mpr w)) _ (I.hok.fresh (Nat.le_refl _))⟩
  exact ⟨by rw [List.length_append]; exact hz, _, r1.append r2, ir.new _ _⟩
end
noncomputable def iC (n : Nat) (i : Int) : Option Nat := if 0 ≤ i then (if i < n then some i.toNat else none) else if -(n : Int) ≤ i then some (i + n).toNat else none
noncomputable def dO {α : Type} (xs : List α) (i : Int) : Option α := (iC xs.length i).bind fun j => xs[j]?
theorem p8 {n : Nat} {i : Int} {j : Nat} (h : iC n i = some j) : seqIndex? i n = some j ∧ j < n ∧ -(n : Int) ≤ i ∧ i < n := by
  unfold iC at h
  by_cases h0 : 0 ≤ i
  · rw [if_pos h0] at h
    by_cases h1 : i < n
    · rw [if_pos h1] at h
      have e : i.toNat = j := Option.some.inj h
      exact ⟨by rw [seqIndex_of h0 h1, e], by omega, by omega, h1⟩
    · rw [if_neg h1] at h; cases h
  · rw [if_neg h0] at h
    by_cases h1 : -(n : Int) ≤ i
    · rw [if_pos h1] at h
      have e : (i + n).toNat = j := Option.some.inj h
      exact ⟨by rw [seqIndex_neg (by omega) h1, e], by omega, h1, by omega⟩
    · rw [if_neg h1] at h; cases h
theorem p9 {α : Type} {xs : List α} {i : Int} {v : α} (h : dO xs i = some v) : ∃ j, seqIndex? i xs.length = some j ∧ xs[j]? = some v ∧ j < xs.length ∧ -(xs.length : Int) ≤ i ∧ i < xs.length := by
  unfold dO at h
  cases e : iC xs.length i with
  | none => rw [e] at h; cases h
  | some j =>
    rw [e] at h
    obtain ⟨h1, h2, h3, h4⟩ := p8 e
    exact ⟨j, h1, h, h2, h3, h4⟩
theorem cN {α : Type} {xs : List α} {j : Nat} {v : α} (h : xs[j]? = some v) : dO xs (j : Int) = some v := by
  have hj : j < xs.length := (List.getElem?_eq_some_iff.mp h).1
  have e : iC xs.length (j : Int) = some j := by
    unfold iC
    rw [if_pos (by omega), if_pos (by omega)]; simp
  unfold dO; rw [e]; exact h
noncomputable def vX (b : Expr) : Prop := ∀ o i, subscripted b false o i = operate [o, i] (getItem o i)
noncomputable def lD (X : Cx) (r : R2) : Prop :=
  ∀ (value slice : Expr) (pins : List (Addr × Obj)) (s : Shared) (σ : St) (H : Hp) (x y : V) (v u : Value) (Q : VK), Inv X pins σ H s → RelV x v → RelV y u → r x y H Q →
    subscripted slice false v u = operate [v, u] (getItem v u) → wpAny (model X.prog X.w) X.A (subscriptTail value slice v u) (EP X pins σ Q) X.xe s
noncomputable def Dr (X : Cx) (id : String) (r : V → List V → Hp → VK → Prop) : Prop :=
  ∀ (pins : List (Addr × Obj)) (s : Shared) (σ : St) (H : Hp) (x : V) (xs : List V) (v : Value) (us : List Value) (Q : VK), Inv X pins σ H s → RelV x v → Vals xs us → r x xs H Q →
    wpAny (model X.prog X.w) X.A (call (.builtin id) (v :: us)) (EP X pins σ Q) X.xe s
section
variable {X : Cx} {a b : Expr} {ta tb : TE} {pos : Pos}
theorem lD.or {r r' : R2} (h : lD X r) (h' : lD X r') : lD X (fun x y H Q => r x y H Q ∨ r' x y H Q) := by
  intro value slice pins s σ H x y v u Q I rx ry q hs
  rcases q with q | q
  · exact h value slice pins s σ H x y v u Q I rx ry q hs
  · exact h' value slice pins s σ H x y v u Q I rx ry q hs
theorem dg {r : R2} (hr : lD X r) (ha : PE X a ta) (hb : PE X b tb) (hs : vX b) : PE X (.Subscript a b pos) (yK r ta tb) := by
  refine ⟨?_⟩
  intro pins s σ H Q I h
  exact Subscript_ (Bn ha hb I h fun v u s2 x y H2 I2 rx ry q => hr a b pins s2 σ H2 x y v u Q I2 rx ry q (hs _ _))
noncomputable def BC (K : PySem.W.Frag) : R2 := fun x y H Q => ∃ p xs i v, x = .ref p ∧ y = .int i ∧ a8 K H p xs ∧ dO xs i = some v ∧ Q v H
noncomputable def Gr (K : PySem.W.Frag) : R2 := fun x y H Q => ∃ p xs i v, x = .ref p ∧ y = .int i ∧ cB K H p xs ∧ dO xs i = some v ∧ Q v H
noncomputable def Gs : R2 := fun x y H Q => ∃ z i c, x = .str z ∧ y = .int i ∧ z.length ≤ sizeLine ∧ dO z.cps.toList i = some c ∧ Q (.str ⟨#[c]⟩) H
theorem vY : lD X (BC X.K) := by
  intro value slice pins s σ H x y v u Q I rx ry h hs
  obtain ⟨p, xs, i, z, rfl, rfl, hq, he, q⟩ := h
  cases rx
  obtain ⟨t, rfl⟩ := ry
  obtain ⟨its, r, pl, hz⟩ := I.list hq
  obtain ⟨j, h1, h2, h3, h4, h5⟩ := p9 he
  obtain ⟨w, ew, ka⟩ := r.get h2
  have hl := r.length
  have hn := jc
  have fin : EP X pins σ Q w s := ⟨z, H, I, ka, q⟩
  by_cases h0 : 0 ≤ i
  · have hj : i.toNat = j := by
      rw [seqIndex_of h0 h5] at h1
      exact Option.some.inj h1
    exact item_listR pl.isList h0 (by omega) (by rw [hj]; simpa using ew) fin hs
  · have hj : (i + (its.toArray.size : Int)).toNat = j := by
      rw [seqIndex_neg (by omega) h4] at h1
      rw [List.size_toArray, ← hl]
      exact Option.some.inj h1
    exact subscriptTail_builtinR (x := w) pl.isList.typeIs slot_list_getitem.lookup
      (wpAny_getItem_list_neg (Q := fun r s' => r = w ∧ EP X pins σ Q r s') pl.isList (by omega) (by rw [List.size_toArray] <;> omega) (by omega) (by rw [hj]; simpa using ew) ⟨rfl, fin⟩) hs
theorem Gu : lD X (Gr X.K) := by
  intro value slice pins s σ H x y v u Q I rx ry h hs
  obtain ⟨p, xs, i, z, rfl, rfl, hq, he, q⟩ := h
  cases rx
  obtain ⟨t, rfl⟩ := ry
  obtain ⟨its, r, pl, hz⟩ := I.tuple hq
  obtain ⟨j, h1, h2, h3, h4, h5⟩ := p9 he
  obtain ⟨w, ew, ka⟩ := r.get h2
  have hl := r.length
  have hn := jc
  have fin : EP X pins σ Q w s := ⟨z, H, I, ka, q⟩
  exact subscriptTail_builtinR (x := w) pl.typeIs slot_tuple_getitem.lookup
    (getItem_tuple (j := j) (Q := fun r s' => r = w ∧ EP X pins σ Q r s') pl (by omega) (by omega) (by rw [List.size_toArray, ← hl]; exact h1) (by simpa using ew) ⟨rfl, fin⟩) hs
theorem Gv : lD X Gs := by
  intro value slice pins s σ H x y v u Q I rx ry h hs
  obtain ⟨z, i, c, rfl, rfl, hz, he, q⟩ := h
  obtain ⟨t, rfl⟩ := rx
  obtain ⟨t', rfl⟩ := ry
  obtain ⟨j, h1, h2, h3, h4, h5⟩ := p9 he
  have hl : z.cps.toList.length = z.length := by simp [Str.length]
  rw [hl] at h1 h4 h5
  have hn := jc
  exact tail_any (typeIs_str s z t) slot_str_getitem.lookup (getItem_str (c := c) (by
    have e1 : decide (i < -(2 ^ 63 : Int)) = false := decide_eq_false (by omega)
    have e2 : decide (i ≥ 2 ^ 63) = false := decide_eq_false (by omega)
    rw [e1, e2, Bool.or_false]) (by rw [h1]; simpa using h2) ⟨.str ⟨#[c]⟩, H, I.tok _, ⟨_, rfl⟩, q⟩) hs
noncomputable def KA (K : PySem.W.Frag) : R2 := fun x y H Q => BC K x y H Q ∨ Gr K x y H Q ∨ Gs x y H Q
theorem Gw : lD X (KA X.K) := vY.or (Gu.or Gv)
theorem xc (its : List Value) (n j : Nat) (u : Value) : Obj.mapSeq (·.setIfInBounds j u) { cls := .type "list", data := .seq its.toArray n } = { cls := .type "list", data := .seq (its.set j u).toArray n } := by
  simp [Obj.mapSeq]
theorem Inv.lst {pins : List (Addr × Obj)} {σ : St} {H : Hp} {s : Shared} {p : Addr} {xs : List V} (I : Inv X pins σ H s) (h : H p = some (.lst xs)) :
    ∃ (its : List Value) (n : Nat), Vals xs its ∧ s.heap.get? p = some { cls := .type "list", data := .seq its.toArray n } ∧ xs.length ≤ sizeLine := by
  obtain ⟨z, its, n, r, e⟩ := I.hok p _ h
  exact ⟨its, n, r, e, z⟩
theorem Inv.Gx {pins : List (Addr × Obj)} {σ : St} {H : Hp} {s : Shared} {p : Addr} {xs ys : List V} {its its' : List Value} {n n' : Nat} {f : Obj → Obj} (I : Inv X pins σ H s) (h : H p = some (.lst xs))
    (ho : s.heap.get? p = some { cls := .type "list", data := .seq its.toArray n }) (hf : f { cls := .type "list", data := .seq its.toArray n } = { cls := .type "list", data := .seq its'.toArray n' }) (r : Vals ys its') (hz : ys.length ≤ sizeLine) (t : Nat) :
    Inv X pins σ (upd H p (.lst ys)) { s with heap := s.heap.update p f, toks := t } := by
  have e : (s.heap.update p f).get? p = some { cls := .type "list", data := .seq its'.toArray n' } := by
    rw [Heap.get?_update_self f ho (by rw [hf] <;> rfl), hf]
  refine I.write (x := p) (e := p) (by rw [h]; trivial) (.inl rfl) (fun b u hb q => (Heap.get?_update_other _ _ (Ne.symm hb)).trans q) ⟨_, e⟩ ?_
  exact ⟨hz, its', n', r, e⟩
noncomputable def Jw : V → V → V → Hp → (Hp → Prop) → Prop := fun o i v H Q => ∃ p xs k j, o = .ref p ∧ i = .int k ∧ H p = some (.lst xs) ∧ iC xs.length k = some j ∧ Q (upd H p (.lst (xs.set j v)))
theorem set_list : F6 X Jw := by
  intro pins s σ H o i v ov iv u Q I ro ri rv h
  obtain ⟨p, xs, k, j, rfl, rfl, hp, hj, q⟩ := h
  cases ro
  obtain ⟨t, rfl⟩ := ri
  obtain ⟨its, n, r, ho, hz⟩ := I.lst hp
  obtain ⟨h1, h2, h3, h4⟩ := p8 hj
  have hl := r.length
  have hn := jc
  have I' : Inv X pins σ (upd H p (.lst (xs.set j v))) { s with heap := s.heap.update p (Obj.mapSeq (·.setIfInBounds j u)) } :=
    I.Gx hp ho (xc its n j u) (r.set rv j) (by rw [List.length_set]; exact hz) s.toks
  by_cases h0 : 0 ≤ k
  · have hk : k.toNat = j := by
      rw [seqIndex_of h0 h4] at h1
      exact Option.some.inj h1
    exact PySem.W.ki_setAt ho h0 (by omega) (by rw [List.size_toArray, ← hl]; exact h4) (by rw [hk]; exact ⟨_, I', q⟩)
  · have hk : (k + (its.toArray.size : Int)).toNat = j := by
      rw [seqIndex_neg (by omega) h3] at h1
      rw [List.size_toArray, ← hl]
      exact Option.some.inj h1
    exact PySem.W.ki_setBack ho (by omega) (by rw [List.size_toArray, ← hl]; exact h3) (by omega) (by rw [hk]; exact ⟨_, I', q⟩)
theorem sV (lo hi : Option Int) (n : Nat) : (sliceBounds lo hi none n).1 = ((HT.gI n 0 lo : Nat) : Int) ∧ (sliceBounds lo hi none n).2.1 = ((HT.gI n n hi : Nat) : Int) ∧ (sliceBounds lo hi none n).2.2 = 1 := by
  refine ⟨?_, ?_, rfl⟩
  · cases lo with
    | none => simp [sliceBounds, HT.gI]
    | some i =>
      simp only [sliceBounds, HT.gI, Option.getD_none, show (1 : Int) > 0 by decide, if_true]
      by_cases h : i < 0
      · simp only [h, if_true] <;> omega
      · simp only [h, if_false] <;> omega
  · cases hi with
    | none => simp [sliceBounds, HT.gI]
    | some i =>
      simp only [sliceBounds, HT.gI, Option.getD_none, show (1 : Int) > 0 by decide, if_true]
      by_cases h : i < 0
      · simp only [h, if_true] <;> omega
      · simp only [h, if_false] <;> omega
theorem rM (its : List Value) (lo hi : Option Int) : slicePick its.toArray lo hi none = ((its.drop (HT.gI its.length 0 lo)).take (HT.gI its.length its.length hi - HT.gI its.length 0 lo)).toArray := by
  obtain ⟨h1, h2, h3⟩ := sV lo hi its.toArray.size
  unfold slicePick
  rw [h1, h2, h3]
  simp only [sliceRange_one, pick_run, List.size_toArray] <;> rfl
noncomputable def Mv (K : PySem.W.Frag) : V → Option Int → Option Int → Hp → VK → Prop := fun x lo hi H Q => ∃ a xs, x = .ref a ∧ a8 K H a xs ∧ ∀ p, H p = none → Q (.ref p) (upd H p (.lst (xa xs lo hi)))
theorem Nu : Dq X (Mv X.K) := by
  intro pins s σ H x v vl vu lo hi sl Q I rx hs pl pu h
  obtain ⟨a, xs, rfl, hx, q⟩ := h
  cases rx
  obtain ⟨its, r, ht, hz⟩ := I.list hx
  have hlen := r.length
  refine ⟨"list", _, slot_list_getitem.lookup, ht.isList.typeIs, ?_⟩
  refine wpAny_getItem_list_slice ht.isList hs pl pu .none (by simp) ?_ (by rw [List.size_toArray] <;> omega)
  rw [rM, ← hlen]
  refine ⟨.ref s.heap.objs.size, _, I.laid (t' := s.toks) (o := .lst (xa xs lo hi)) (fun b ob q => Heap.get?_push_of_some _ q) (Nat.le_refl _) ?_, rfl, q _ (I.hok.fresh (Nat.le_refl _))⟩
  exact ⟨Nat.le_trans (u6 xs lo hi) hz, _, 0, (r.drop (HT.gI xs.length 0 lo)).take (HT.gI xs.length xs.length hi - HT.gI xs.length 0 lo), Heap.get?_push_size _ rfl⟩
theorem sW : cq X (.builtin "len") (fun xs H Q => ∃ p ys, xs = [.ref p] ∧ (a8 X.K H p ys ∨ cB X.K H p ys) ∧ Q (.int ys.length) H) := by
  intro pins s σ H xs us Q I r h
  obtain ⟨p, ys, rfl, hq, q⟩ := h
  obtain ⟨u, rfl, rx⟩ := vals1 r
  cases rx
  have hn := jc
  rcases hq with hq | hq
  · obtain ⟨its, r', pl, hz⟩ := I.list hq
    have hlen := r'.length
    exact Calls.call_len_list pl.isList (by simp only [List.size_toArray] <;> omega) ⟨.int ys.length, H, I.tok _, ⟨s.toks + 1, by rw [List.size_toArray, hlen]⟩, q⟩
  · obtain ⟨its, r', pl, hz⟩ := I.tuple hq
    have hlen := r'.length
    exact len_tuple pl (by simp only [List.size_toArray] <;> omega) ⟨.int ys.length, H, I.tok _, ⟨s.toks + 1, by rw [List.size_toArray, hlen]⟩, q⟩
theorem sX : cq X (.type "list") (fun xs H Q => ∃ p ys, xs = [.ref p] ∧ (a8 X.K H p ys ∨ cB X.K H p ys) ∧ ∀ l, H l = none → Q (.ref l) (upd H l (.lst ys))) := by
  intro pins s σ H xs us Q I r h
  obtain ⟨p, ys, rfl, hq, q⟩ := h
  obtain ⟨u, rfl, rx⟩ := vals1 r
  cases rx
  have fin : ∀ (its : List Value), Vals ys its → ys.length ≤ sizeLine → ∀ (h' : Heap) (c' : Nat), (∀ b o', s.heap.get? b = some o' → h'.get? b = some o') →
      h'.get? s.heap.objs.size = some { cls := .type "list", dict := none, data := .seq its.toArray c', slots := #[] } → EP X pins σ Q (.ref s.heap.objs.size) { s with heap := h' } := fun its r' hz h' c' kp e =>
    ⟨.ref s.heap.objs.size, _, I.laid (t' := s.toks) kp (Nat.le_refl _) (show ObjOk X.prog X.w _ h' _ (.lst ys) from ⟨hz, its, c', r', e⟩), rfl, q _ (I.hok.fresh (Nat.le_refl _))⟩
  rcases hq with hq | hq
  · obtain ⟨its, r', pl, hz⟩ := I.list hq
    have hlen := r'.length
    obtain ⟨o, ho, hc, n, hd⟩ := pl.isList
    exact call_list_seq p (.inl rfl) ho hc hd (fun h' c' kp e => fin its r' hz h' c' kp e) (by simp only [List.size_toArray] <;> omega)
  · obtain ⟨its, r', pl, hz⟩ := I.tuple hq
    have hlen := r'.length
    obtain ⟨o, ho, hc, n, hd⟩ := pl
    exact call_list_seq p (.inr rfl) ho hc hd (fun h' c' kp e => fin its r' hz h' c' kp e) (by simp only [List.size_toArray] <;> omega)
theorem rN : cq X (.type "tuple") (fun xs H Q => ∃ p ys, xs = [.ref p] ∧ ((a8 X.K H p ys ∧ ∀ l, H l = none → Q (.ref l) (upd H l (.tup ys))) ∨ (cB X.K H p ys ∧ Q (.ref p) H))) := by
  intro pins s σ H xs us Q I r h
  obtain ⟨p, ys, rfl, h⟩ := h
  obtain ⟨u, rfl, rx⟩ := vals1 r
  cases rx
  rcases h with ⟨hq, q⟩ | ⟨hq, q⟩
  · obtain ⟨its, r', pl, hz⟩ := I.list hq
    have hlen := r'.length
    refine call_tuple_list pl.isList (fun h' kp => ?_) (by simp only [List.size_toArray] <;> omega)
    have I1 : Inv X pins σ H { s with heap := h' } := I.kept (t' := s.toks) kp
    have I2 : Inv X pins σ (upd H h'.objs.size (.tup ys)) { s with heap := h'.push { cls := .type "tuple", data := .seq its.toArray } } :=
      I1.laid (t' := s.toks) (fun b o e => Heap.get?_push_of_some _ e) (Nat.le_refl _) (show ObjOk X.prog X.w _ _ _ (.tup ys) from ⟨hz, its, r', ir.new _ _⟩)
    exact ⟨.ref h'.objs.size, _, I2, rfl, q _ (I1.hok.fresh (Nat.le_refl _))⟩
  · obtain ⟨its, r', pl, hz⟩ := I.tuple hq
    exact call_tuple_same pl ⟨.ref p, H, I, rfl, q⟩
noncomputable def Gy (K : PySem.W.Frag) (T : String) (x : V) (H : Hp) : Prop := match x with
  | .str _ => T = "str"
  | .int _ => T = "int"
  | .ref p => (T = "list" ∧ ∃ xs, a8 K H p xs) ∨ (T = "tuple" ∧ ((∃ o, K.lookup p = some o ∧ o.cls = .type "tuple" ∧ o.dict = none) ∨ ∃ xs, H p = some (.tup xs))) ∨
      (T = "dict" ∧ ((∃ ao, H p = some (.dK ao)) ∨ ∃ ao, H p = some (.dT ao))) ∨ (T = "set" ∧ ∃ S n, H p = some (.set S n))
  | _ => False
theorem GA {pins : List (Addr × Obj)} {σ : St} {H : Hp} {s : Shared} {T : String} {x : V} {v : Value} (I : Inv X pins σ H s) (r : RelV x v) (ty : Gy X.K T x H) :
    s.TypeIs v T ∧ ∀ a, v = .ref a → ∃ ob, s.heap.get? a = some ob ∧ ob.dict = none := by
  cases x with
  | str z =>
    obtain ⟨t, rfl⟩ := r
    cases (show T = "str" from ty)
    exact ⟨typeIs_str s z t, fun _ e => nomatch e⟩
  | int i =>
    obtain ⟨t, rfl⟩ := r
    cases (show T = "int" from ty)
    exact ⟨typeIs_int s i t, fun _ e => nomatch e⟩
  | ref p =>
    cases r
    rcases ty with ⟨rfl, xs, hq⟩ | ⟨rfl, ⟨o, hk, hc, hd⟩ | ⟨xs, hk⟩⟩ | ⟨rfl, hk⟩ | ⟨rfl, S, n, hk⟩
    · obtain ⟨its, _, pl, _⟩ := I.list hq
      refine ⟨pl.isList.typeIs, fun a e => ?_⟩
      cases e
      obtain ⟨o, n, e, c, hd, _⟩ := pl
      exact ⟨o, e, hd⟩
    · refine ⟨⟨o, I.fA p o hk, hc⟩, fun a e => ?_⟩
      cases e
      exact ⟨o, I.fA _ o hk, hd⟩
    · obtain ⟨_, its, _, o, e, c, n, d, hd⟩ := I.hok p _ hk
      refine ⟨⟨o, e, c⟩, fun a e2 => ?_⟩
      cases e2
      exact ⟨o, e, hd⟩
    · have z : ∃ o, s.heap.get? p = some o ∧ o.ExactDict := by
        rcases hk with ⟨ao, hk⟩ | ⟨ao, hk⟩
        · obtain ⟨_, _, _, _, o, _, _, e, ex, _⟩ := I.hok p _ hk
          exact ⟨o, e, ex⟩
        · obtain ⟨_, _, _, _, o, _, _, e, ex, _⟩ := I.hok p _ hk
          exact ⟨o, e, ex⟩
      obtain ⟨o, e, ex⟩ := z
      refine ⟨⟨o, e, ex.1⟩, fun a e2 => ?_⟩
      cases e2
      exact ⟨o, e, ex.2.1⟩
    · obtain ⟨o, _, _, _, e, ex, _⟩ := I.hok p _ hk
      refine ⟨⟨o, e, ex.1⟩, fun a e2 => ?_⟩
      cases e2
      exact ⟨o, e, ex.2.1⟩
  | _ => exact False.elim ty
noncomputable def KC (K : PySem.W.Frag) (T : String) (r : V → List V → Hp → VK → Prop) (to : TE) (t : TA) : TE := fun σ H Q => to σ H fun x H1 => Gy K T x H1 ∧ t σ H1 fun xs H2 => r x xs H2 Q
variable {o e : Expr} {es : List Expr} {to : TE} {t : TA} {name : Str} {apos bG : Pos} {T id : String} {r : V → List V → Hp → VK → Prop}
theorem Jx (pa : PlainAttrs T) (slot : Slot T name id) (sY : typeOf (.builtin id) = pure (.type "method_descriptor")) (hm : Dr X id r) (ho : PE X o to) (ha : PA X (e :: es) t)
    (oQ : attributeBase o name X.env (eval o X.env) = eval o X.env := by rfl)
    (sZ : ((backTo bG (starEach (e :: es) X.env)).all (fun x => !x.1) && (backToKw bG (keywordEach [] X.env)).all (fun x => x.1.isSome)
      && decide ((e :: es).length + ([] : List Keyword).length + (if ([] : List Keyword).isEmpty then 0 else 1) < 30)) = true := by rfl)
    (hline : (apos.endLine == bG.line) = true := by rfl) (hs : starEach (e :: es) X.env = (false, eval e X.env) :: starEach es X.env := by rfl) (lZ : (backTo bG (starEach es X.env)).any (·.1) = false := by rfl) :
    PE X (.Call (.Attribute o name apos) (e :: es) [] bG) (KC X.K T r to t) := by
  refine ⟨?_⟩
  intro pins s σ H Q I h
  refine wpAny_Call_method_late oQ sZ hline rfl (thn (ho pins s σ H _ I h) fun v s1 ⟨x, H1, I1, r1, ty, q1⟩ => ?_)
  obtain ⟨h1, h2⟩ := GA I1 r1 ty
  refine ⟨T, id, pa, slot, sY, h1, h2, ?_⟩
  have hA := ha bG pins s1 σ H1 _ I1 q1
  rw [hs] at hA ⊢
  refine Calls.callWith_builtin (by show (false || (backTo bG (starEach es X.env)).any (·.1)) = false; rw [lZ] <;> rfl) (Calls.evalArgs_plain ?_)
  exact thn hA fun us s2 ⟨vs, H2, I2, r2, q2⟩ => hm pins s2 σ H2 x vs v us Q I2 r1 r2 q2
end
noncomputable def GB (X : Cx) (id : String) (r : V → List V → Hp → VK → Prop) : Prop :=
  ∀ (pins : List (Addr × Obj)) (s : Shared) (σ : St) (H : Hp) (x : V) (xs : List V) (v : Value) (us : List Value) (Q : VK), Inv X pins σ H s → RelV x v → Vals xs us → r x xs H Q →
    wpAny (model X.prog X.w) X.A (call (.builtin id) (v :: us)) (EP X pins σ Q) X.xe s
theorem Vals.one : ∀ {x : V} {us : List Value}, Vals [x] us → ∃ u, us = [u] ∧ RelV x u
  | _, _, .cons r .nil => ⟨_, rfl, r⟩
theorem Vals.eraseIdx : ∀ {xs : List V} {us : List Value} (i : Nat), Vals xs us → Vals (xs.eraseIdx i) (us.eraseIdx i)
  | _, _, _, .nil => .nil
  | _, _, 0, .cons _ t => t
  | _, _, i + 1, .cons r t => .cons r (Vals.eraseIdx i t)
theorem Vals.rep {xs : List V} {us : List Value} (h : Vals xs us) : ∀ k : Nat, Vals (List.replicate k xs).flatten (List.replicate k us).flatten
  | 0 => .nil
  | k + 1 => by
    rw [List.replicate_succ, List.replicate_succ, List.flatten_cons, List.flatten_cons]
    exact Vals.append h (Vals.rep h k)
theorem qQ {α : Type} : ∀ (l : List α) (i : Nat), (l.eraseIdx i).length ≤ l.length
  | [], _ => Nat.le_refl _
  | _ :: _, 0 => Nat.le_succ _
  | _ :: r, i + 1 => Nat.succ_le_succ (qQ r i)
theorem foldl_rep (its : List Value) : ∀ (k : Nat) (acc : List Value),
    List.foldl (fun x1 x2 => x1 ++ x2) acc.toArray (List.replicate k its.toArray) = (acc ++ (List.replicate k its).flatten).toArray
  | 0, acc => by simp
  | k + 1, acc => by
    have e : acc.toArray ++ its.toArray = (acc ++ its).toArray := by simp
    have e2 : (acc ++ its) ++ (List.replicate k its).flatten = acc ++ (List.replicate (k + 1) its).flatten := by
      rw [List.replicate_succ, List.flatten_cons, List.append_assoc]
    rw [← e2, ← foldl_rep its k (acc ++ its), ← e, List.replicate_succ, List.foldl_cons]
section
variable {X : Cx} {pins : List (Addr × Obj)} {σ : St} {H : Hp} {s : Shared} {l b : Addr} {xs ys zs : List V}
theorem Inv.qa {its its' : List Value} {n : Nat} {f : Array Value → Array Value} {t' : Nat} (I : Inv X pins σ H s) (hH : H l = some (.lst xs))
    (e : s.heap.get? l = some { cls := .type "list", data := .seq its.toArray n }) (hf : f its.toArray = its'.toArray) (hv : Vals ys its') (hz : ys.length ≤ sizeLine) :
    Inv X pins σ (upd H l (.lst ys)) { s with heap := s.heap.update l (Obj.mapSeq f), toks := t' } := by
  have q := PySem.IsL.update e f
  rw [hf] at q
  refine I.write (x := l) (e := l) (by rw [hH]; exact trivial) (.inl rfl) (fun b' u hb hu => (Heap.get?_update_other s.heap (Obj.mapSeq f) (Ne.symm hb)).trans hu) ⟨_, q⟩ ?_
  exact ⟨hz, its', _, hv, q⟩
theorem Inv.BD {its : List Value} {t' : Nat} (I : Inv X pins σ H s) (hv : Vals ys its) (hz : ys.length ≤ sizeLine) :
    Inv X pins σ (upd H s.heap.objs.size (.lst ys)) { s with heap := s.heap.push { cls := .type "list", data := .seq its.toArray }, toks := t' } :=
  I.laid (fun _ _ q => Heap.get?_push_of_some _ q) (Nat.le_refl _) ⟨hz, its, 0, hv, Heap.get?_push_size _ rfl⟩
theorem Inv.fresh (I : Inv X pins σ H s) : H s.heap.objs.size = none := I.hok.fresh (Nat.le_refl _)
theorem Inv.jd (I : Inv X pins σ H s) (hH : H l = some (.lst xs)) : xs.length ≤ sizeLine ∧ ∃ (its : List Value) (n : Nat), Vals xs its ∧ xs.length = its.length ∧ s.heap.get? l = some { cls := .type "list", data := .seq its.toArray n } := by
  obtain ⟨z, its, n, r, e⟩ := I.hok l _ hH
  exact ⟨z, its, n, r, r.length, e⟩
theorem tj {n : Nat} (h : n ≤ sizeLine) : Builtin.List.listTooLong n = false := by
  unfold Builtin.List.listTooLong
  exact decide_eq_false (by omega)
end
section
variable {X : Cx}
noncomputable def Eo : V → List V → Hp → VK → Prop := fun x vs H Q => ∃ l xs y, x = .ref l ∧ vs = [y] ∧ H l = some (.lst xs) ∧ xs.length < sizeLine ∧ Q .aq (upd H l (.lst (xs ++ [y])))
theorem l0 : GB X "list.append" Eo := by
  intro pins s σ H x vs v us Q I rx rv h
  obtain ⟨l, xs, y, rfl, rfl, hH, hz, q⟩ := h
  cases rx
  obtain ⟨u, rfl, ru⟩ := rv.one
  obtain ⟨z, its, n, r, hl, e⟩ := I.jd hH
  refine call_meets F.slot_list_append ⟨_, e, rfl⟩ F.entry_list_append (F.args_list_append_2 _ _) (PySem.list_append l its.toArray n u (by rw [List.size_toArray]; omega)) ⟨e, ?_⟩
  refine ⟨.aq, _, I.qa (its' := its ++ [u]) hH e (by simp) (r.append (.cons ru .nil)) ?_, rfl, q⟩
  rw [List.length_append, List.length_singleton]
  omega
noncomputable def Ep : V → List V → Hp → VK → Prop := fun x vs H Q => ∃ l b xs zs, x = .ref l ∧ vs = [.ref b] ∧ H l = some (.lst xs) ∧ H b = some (.lst zs) ∧ xs.length + zs.length ≤ sizeLine ∧ Q .aq (upd H l (.lst (xs ++ zs)))
theorem KD : GB X "list.extend" Ep := by
  intro pins s σ H x vs v us Q I rx rv h
  obtain ⟨l, b, xs, zs, rfl, rfl, hH, hB, hz, q⟩ := h
  cases rx
  obtain ⟨u, rfl, ru⟩ := rv.one
  cases ru
  obtain ⟨z, its, n, r, hl, e⟩ := I.jd hH
  obtain ⟨z2, bW, n2, r2, fq, e2⟩ := I.jd hB
  have hsz : its.toArray.size + bW.toArray.size ≤ sizeLine := by rw [List.size_toArray, List.size_toArray]; omega
  have xf : ¬ (!its.toArray.isEmpty && Builtin.List.listTooLong (its.toArray.size + bW.toArray.size)) = true := by
    rw [tj hsz, Bool.and_false]
    exact Bool.false_ne_true
  refine call_meets F.slot_list_extend ⟨_, e, rfl⟩ F.entry_list_extend (F.args_list_extend_2 _ _)
    (AutoSeq1.list_extend_list_list_0 l its.toArray n b bW.toArray n2 xf (by rw [List.size_toArray]; omega) (by omega)) ⟨e, e2, ?_⟩
  refine ⟨.aq, _, I.qa (its' := its ++ bW) hH e (by simp) (r.append r2) ?_, rfl, q⟩
  rw [List.length_append]
  omega
noncomputable def GC : V → List V → Hp → VK → Prop := fun x vs H Q => ∃ l xs i k y, x = .ref l ∧ vs = [.int i] ∧ H l = some (.lst xs) ∧ -(2 ^ 63) ≤ i ∧ i < 2 ^ 63 ∧ seqIndex? i xs.length = some k ∧ xs[k]? = some y ∧ Q y (upd H l (.lst (xs.eraseIdx k)))
theorem BE : GB X "list.pop" GC := by
  intro pins s σ H x vs v us Q I rx rv h
  obtain ⟨l, xs, i, k, y, rfl, rfl, hH, h1, h2, hk, hy, q⟩ := h
  cases rx
  obtain ⟨u, rfl, ru⟩ := rv.one
  obtain ⟨t, rfl⟩ := ru
  obtain ⟨z, its, n, r, hl, e⟩ := I.jd hH
  obtain ⟨w, hw, ka⟩ := r.get hy
  refine call_meets F.slot_list_pop ⟨_, e, rfl⟩ F.entry_list_pop (F.args_list_pop_2 _ _)
    (MeetsSeq.list_pop_at l its.toArray n i t k w (fitsIndex_both h1 h2) (by rw [List.size_toArray, ← hl]; exact hk) (by rw [← Array.getElem?_toList]; exact hw) (by rw [List.size_toArray]; omega)) ⟨e, ?_⟩
  refine ⟨y, _, I.qa (its' := its.eraseIdx k) hH e ?_ (r.eraseIdx k) ?_, ka, q⟩
  · show its.toArray.eraseIdxIfInBounds k = (its.eraseIdx k).toArray
    rw [List.eraseIdxIfInBounds_toArray]
  · have := qQ xs k
    omega
noncomputable def Mw : R2 := fun x y H Q => ∃ l b xs zs, x = .ref l ∧ y = .ref b ∧ H l = some (.lst xs) ∧ H b = some (.lst zs) ∧ xs.length + zs.length ≤ sizeLine ∧ ∀ p, H p = none → Q (.ref p) (upd H p (.lst (xs ++ zs)))
theorem GD : OpR X (binaryOp .Add) Mw := by
  intro pins s σ H x y v u Q I rx ry h
  obtain ⟨l, b, xs, zs, rfl, rfl, hH, hB, hz, q⟩ := h
  cases rx
  cases ry
  obtain ⟨z, its, n, r, hl, e⟩ := I.jd hH
  obtain ⟨z2, bW, n2, r2, fq, e2⟩ := I.jd hB
  refine PySem.P.add_list e e2 ?_ (by rw [List.size_toArray, List.size_toArray]; omega)
  have ea : its.toArray ++ bW.toArray = (its ++ bW).toArray := by simp
  rw [ea]
  exact ⟨.ref _, _, I.BD (t' := s.toks) (r.append r2) (by rw [List.length_append]; omega), rfl, q _ I.fresh⟩
noncomputable def Mx : R2 := fun x y H Q => ∃ l k xs, x = .ref l ∧ y = .int k ∧ H l = some (.lst xs) ∧ -(2 ^ 63) ≤ k ∧ k < 2 ^ 63 ∧ xs.length * k.toNat ≤ sizeLine ∧
  ∀ p, H p = none → Q (.ref p) (upd H p (.lst (List.replicate k.toNat xs).flatten))
theorem len_rep {α : Type} (xs : List α) (k : Nat) : (List.replicate k xs).flatten.length = k * xs.length := by
  induction k with
  | zero => simp
  | succ k ih => rw [List.replicate_succ, List.flatten_cons, List.length_append, ih, Nat.succ_mul, Nat.add_comm]
theorem yT : OpR X (binaryOp .Mult) Mx := by
  intro pins s σ H x y v u Q I rx ry h
  obtain ⟨l, k, xs, rfl, rfl, hH, h1, h2, hz, q⟩ := h
  cases rx
  obtain ⟨t, rfl⟩ := ry
  obtain ⟨z, its, n, r, hl, e⟩ := I.jd hH
  have hlen : its.toArray.size * k.toNat ≤ sizeLine := by rw [List.size_toArray, ← hl]; exact hz
  have MA : ¬ its.toArray.size * k.toNat > (2 ^ 63 - 1) / 8 := by
    have : (sizeLine : Nat) ≤ (2 ^ 63 - 1) / 8 := by decide
    omega
  have GF : ¬ (!Builtin.List.listFitsIndex k) = true := by
    rw [fitsIndex_both h1 h2]
    exact Bool.false_ne_true
  have xf : ¬ Builtin.List.listTooLong (its.toArray.size * k.toNat) = true := by
    rw [tj hlen]
    exact Bool.false_ne_true
  have MB : List.foldl (fun x1 x2 => x1 ++ x2) #[] (List.replicate (if its.toArray.isEmpty = true then 0 else k.toNat) its.toArray) = (List.replicate k.toNat its).flatten.toArray := by
    have f0 : ∀ m : Nat, List.foldl (fun x1 x2 => x1 ++ x2) #[] (List.replicate m its.toArray) = (List.replicate m its).flatten.toArray := fun m => by
      have := foldl_rep its m []
      rw [List.nil_append] at this
      exact this
    rw [f0]
    cases its with
    | nil => simp
    | cons a r' => rw [if_neg (by simp)]
  refine wpAny_binaryOp_repeat_ref (T := "list") (U := "int") (by decide) ⟨_, e, rfl⟩ (fun s' => typeIs_int s' k t) noFill_list_mul F.fills_int_mul F.slot_int_rmul repeat_list F.slot_int_index.lookup
    (call_meets F.slot_int_rmul (typeIs_int s k t) F.entry_int_rmul (F.args_int_rmul_2 _ _) (int___rmul___int_list k t l its.toArray n)
      ⟨e, rfl, ⟨_, e, rfl⟩, call_meets F.slot_list_mul ⟨_, e, rfl⟩ F.entry_list_mul (F.args_list_mul_2 _ _) (AutoListH.list___mul___list_int_3 l its.toArray n k t GF MA xf) ⟨e, ?_⟩⟩)
  rw [MB]
  exact ⟨.ref _, _, I.BD (t' := s.toks) (r.rep k.toNat) (by rw [len_rep, Nat.mul_comm]; exact hz), rfl, q _ I.fresh⟩
end
end L2
namespace KG
open PySem PySem.W PySem.Calls PyProof.Rows
theorem oR {P : Params} {h : Heap} : ∀ (ns : List Int) (vs : List Value), WellAll P h vs (ns.map WData.int) → IntsAre vs ns := by
  intro ns
  induction ns with
  | nil =>
    intro vs w
    rw [List.map_nil] at w
    cases w
    exact .nil
  | cons n ns ih =>
    intro vs w
    rw [List.map_cons] at w
    cases w with
    | cons a b =>
      cases a
      exact .cons _ _ (ih _ b)
theorem yU {l : OpenLaw} {n : Nat} (hn : l.most = some n) {P : Params} {h : Heap} {args : List WData} {vals : List Value}
    (xg : l.row.toRowW.claim.pre args = true) (GH : WellAll P h vals args) :
    ∃ a vs ns, vals = [Value.ref a] ∧ args = [WData.list (ns.map WData.int)] ∧ h.get? a = some { cls := .type "list", data := .seq vs.toArray } ∧ IntsAre vs ns ∧ ns.length ≤ n := by
  have NR : WShape.hasAll [] args [.list .int] = true := (pre_splitW xg).1
  have hc : l.pre.holds [] { args := args } = true := (pre_splitW xg).2
  obtain ⟨d, r, rfl, h1, h2⟩ := hasAllW_cons NR
  obtain rfl := hasAllW_nil h2
  obtain ⟨xs, rfl, h3⟩ := hasW_list h1
  obtain ⟨ns, rfl⟩ := items_int h3
  have hlen : ns.length ≤ n := by
    unfold OpenLaw.pre at hc
    have h4 : (WTm.not (.lt (.lit (.int (n : Int))) (.len (.arg 0)))).holds [] { args := [.list (ns.map .int)] } = true := by
      have h4 := (holds_andW hc).1
      rw [hn] at h4
      exact h4
    have h5 := condW_of h4 (w_not (w_lt w_lit (w_len_list (w_arg rfl))))
    rw [List.length_map] at h5
    refine Nat.le_of_not_lt fun q => ?_
    have q' : (n : Int) < ((ns.length : Nat) : Int) := by omega
    first
      | (rw [decide_eq_true q'] at h5; exact absurd h5 (by decide))
      | (simp at h5; omega)
  cases GH with
  | cons w1 w2 =>
    cases w2
    cases w1 with
    | list ho MC => exact ⟨_, _, ns, rfl, rfl, ho, oR ns _ MC, hlen⟩
theorem yV (l : OpenLaw) (args : List WData) : l.row.toRowW.claim.post args (.bool true) args = true :=
  postW_of (r := l.row.toRowW) (X := (true == true))
    (show WShape.has [] (.bool true) .bool = true by first | rfl | decide | simp [WShape.has, WShape.arms, WShape.armsAll])
    (show (WTm.eq .res (.lit (.bool true))).value [] { args := args, res := some (.bool true), after := args } = some (.bool (true == true)) from w_eq_bool (w_res rfl) w_lit) rfl
theorem u9 {l : OpenLaw} {n : Nat} {q : Program} {loose : List Str} {XP : (Str → Option Value) → Heap → Prop} {YP : World → Heap → Prop} {d : DefRec}
    (hn : l.most = some n) (yW : d.params.defaults = [])
    (call : ∀ (w : World) (s₀ au : Shared) (mg mb : Str → Option Value) (fa : Addr) (o : Obj) (pm cd doc : Value) (a : Addr) (vs : List Value) (ns : List Int),
      Ground q loose [] XP w s₀ mg mb au.heap → YP w au.heap →
      au.heap.get? fa = some o → o.data = .func (docDef d.name d.params d.body d.scope pm cd doc) → au.heap.CodeRec cd d.name → mg d.name = some (.ref fa) →
      au.heap.get? a = some { cls := .type "list", data := .seq vs.toArray } → IntsAre vs ns → ns.length ≤ n → au.gens = #[] →
      codeAny (model l.prog w) callerA (.call (.ref fa) ⟨[.ref a], []⟩) (fun r s' => r = .ok (.ret (.bool true)) ∧ OldK au.heap s'.heap ∧ s'.os = au.os ∧ AllBare s'.gens) au) :
    WalkO q loose XP YP l.row.toRowW d [] (fun f vs => PySem.call f vs) := by
  intro w s₀ au mg mb G Y fa o pm cd doc dV kV ho hd fD hD yX hg args vals as xg PY P6 GH P7
  obtain rfl : dV = .none := Dflts.none hD yW
  obtain rfl : kV = .none := Dflts.noKw hD
  obtain ⟨a, vs, ns, rfl, rfl, BF, hints, hlen⟩ := yU hn xg GH
  refine enter_call (codeAny_mono (call w s₀ au mg mb fa o pm cd doc a vs ns G Y ho (fd_plain hd) fD yX BF hints hlen hg) fun r s' hq => ?_)
  obtain ⟨rfl, h2, h3, h4⟩ := hq
  exact ⟨.inl ⟨.bool true, .bool true, [], rfl, fun _ => rfl, .bool true, yV l _, fun _ => ⟨List.Pairwise.nil, fun _ hm => (nomatch hm)⟩⟩, h2, h3, h4⟩
end KG
namespace L2
open PySem PySem.Spec PyProof.Rows
theorem qR : ∀ {vs : List Value} {ns : List Int}, IntsAre vs ns → Vals (ns.map V.int) vs
  | _, _, .nil => .nil
  | _, _, .cons n t h => .cons ⟨t, rfl⟩ (qR h)
noncomputable def gk (s : Stmt) : Arguments := match s with
  | .FunctionDef _ a _ _ _ _ _ _ _ _ => a
  | _ => { posonlyargs := [], args := [], vararg := none, kwonlyargs := [], kw_defaults := [], kwarg := none, defaults := [] }
noncomputable def cY (s : Stmt) : List Stmt := match s with
  | .FunctionDef _ _ b _ _ _ _ _ _ _ => b
  | _ => []
noncomputable def ak (s : Stmt) : Scope := match s with
  | .FunctionDef _ _ _ _ _ _ sc _ _ _ => sc
  | _ => { kind := .function, names := [], isGenerator := false, isCoroutine := false }
noncomputable abbrev bz : j9 := fun _ _ _ _ _ _ => False
noncomputable abbrev E0 : XK := fun _ _ _ => False
theorem bt {X : Cx} : Passes bz X E0 := fun _ _ _ _ _ _ _ h => h.elim
structure nN (K : PySem.W.Frag) (x qual : Str) (st : Stmt) (f : Addr) (fd : FuncData) : Prop where
  ex : ∃ (oc : Value) (od : Option Addr) (kV doc pm : Value) (an : Option Addr) (cy ct : Value) (lB : Array (Option Value)),
    fd = PySem.W.fnOf x qual (gk st) (cY st) (ak st) .none kV doc pm an cy ct ∧ K.lookup f = some ⟨oc, od, .func fd, lB⟩ ∧ PySem.W.codeIn K cy qual = true
  kp : PySem.W.keepIn K (.ref f) = true
section
variable {P : Program} {w : World} {K : PySem.W.Frag} {mg : Str → Option Value} {base : Heap}
theorem nN.ok {x qual : Str} {st : Stmt} {f : Addr} {fd : FuncData} {N ps : List Str} {k : Nat} {sp : Sp} (F : nN K x qual st f fd) (S : aJ N ps (ak st)) (len : ∀ vs H Q E, sp vs H Q E → vs.length = ps.length)
    (kI : ∀ (cy : Value) (A : Around) (outer : List Env) (s : Shared) (H : Hp) (vs : List V) (Q : VK) (E : XK), bV k (A.deeper (envOfC qual (ak st) s.heap.objs.size f cy)) → sp vs H Q E →
      ∃ t, d6 (fu bz P w K mg base N qual (ak st) f cy A outer s H E).nM (cY st) t ∧ t { nx := fun _ H' => Q .aq H', rt := Q } (start N vs) H) : FnOk P w K mg base bz (k + 1) f fd ps sp := by
  obtain ⟨oc, od, kV, doc, pm, an, cy, ct, lB, rfl, lk, fD⟩ := F.ex
  refine w6 lk fD S len fun A outer s H vs Q E hr lC => ?_
  obtain ⟨t, h, q⟩ := kI cy A outer s H vs Q E hr lC
  exact ⟨t, h.nM, q⟩
theorem nN.binds {x qual : Str} {st : Stmt} {f : Addr} {fd : FuncData} {ps : List Str} (F : nN K x qual st f fd)
    (h : ∀ (kV doc pm : Value) (an : Option Addr) (cy ct : Value) (us : List Value), us.length = ps.length → bindArgs (PySem.W.fnOf x qual (gk st) (cY st) (ak st) .none kV doc pm an cy ct) ⟨us, []⟩ = pure (ps.zip us)) : Binds K fd ps [] := by
  obtain ⟨oc, od, kV, doc, pm, an, cy, ct, lB, rfl, lk, fD⟩ := F.ex
  exact .all (h kV doc pm an cy ct)
theorem GI {x qual : Str} {st : Stmt} {f : Addr} {oc : Value} {od an : Option Addr} {lB : Array (Option Value)} {kV doc pm cy ct : Value} (l : K.lookup f = some ⟨oc, od, .func (PySem.W.fnOf x qual (gk st) (cY st) (ak st) .none kV doc pm an cy ct), lB⟩)
    (c : PySem.W.codeIn K cy qual = true) (k : PySem.W.keepIn K (.ref f) = true) : nN K x qual st f (PySem.W.fnOf x qual (gk st) (cY st) (ak st) .none kV doc pm an cy ct) := ⟨⟨oc, od, kV, doc, pm, an, cy, ct, lB, rfl, l, c⟩, k⟩
end
section
variable {X : Cx}
theorem pv (i : Nat) {x : Str} {pos : Pos} (hN : X.N[i]? = some x := by rfl) (hv : sN X.env.scope x := by first | exact Or.inl rfl | exact Or.inr (Or.inl rfl) | exact Or.inr (Or.inr rfl)) (hd : (x == ("__debug__" : Str)) = false := by decide)
    (fD : (x == ("__classdict__" : Str)) = false := by decide) : PE X (.Name x pos) (FW i) := yF hN hv hd fD
end
theorem kJ {c A B : Prop} [Decidable c] (h1 : c → A) (h2 : ¬ c → B) : if c then A else B := by
  by_cases h : c
  · rw [if_pos h]
    exact h1 h
  · rw [if_neg h]
    exact h2 h
end L2
set_option maxHeartbeats 4000000
namespace L2
open PySem PySem.Spec PyProof.Rows
theorem kM {env : Env} : ∀ (names : List (Str × NameKind)) (acc : List (Str × Addr)), (∀ n, (n, NameKind.free) ∈ names → ∃ c, env.cells.lookup n = some c) →
    (∀ n c, acc.lookup n = some c → env.cells.lookup n = some c) →
    ∃ cl, (forIn names acc fun x r => if (x.2 == NameKind.free) = true then (do let a ← cellOf env x.1; pure (ForInStep.yield ((x.1, a) :: r))) else pure (ForInStep.yield r) : Sem (List (Str × Addr))) = pure cl ∧
      (∀ n c, cl.lookup n = some c → env.cells.lookup n = some c) ∧ (∀ n, (n, NameKind.free) ∈ names → ∃ c, cl.lookup n = some c) ∧ (∀ n c, acc.lookup n = some c → ∃ c', cl.lookup n = some c')
  | [], acc, _, h2 => ⟨acc, rfl, h2, fun n h => by simp at h, fun n c h => ⟨c, h⟩⟩
  | (n, k) :: r, acc, h1, h2 => by
    rw [List.forIn_cons]
    cases hk : (k == NameKind.free) with
    | true =>
      have ek : k = NameKind.free := by simpa using hk
      subst ek
      obtain ⟨c, hc⟩ := h1 n List.mem_cons_self
      have e1 : cellOf env n = pure c := by unfold cellOf; rw [hc]
      obtain ⟨cl, e, a1, a2, a3⟩ := kM r ((n, c) :: acc) (fun m hm => h1 m (List.mem_cons_of_mem _ hm)) (fun m c' hm => by
        rw [List.lookup_cons] at hm
        cases hb : m == n with
        | true =>
          rw [hb] at hm
          have e2 : m = n := by simpa using hb
          rw [e2, hc]; exact hm
        | false => rw [hb] at hm; exact h2 m c' hm)
      refine ⟨cl, ?_, a1, fun m hm => ?_, fun m c' hm => ?_⟩
      · simp only [if_true, e1]
        exact e
      · rcases List.mem_cons.mp hm with z | z
        · cases z
          exact a3 n c (by rw [List.lookup_cons]; simp)
        · exact a2 m z
      · by_cases hb : m = n
        · subst hb
          exact a3 m c (by rw [List.lookup_cons]; simp)
        · exact a3 m c' (by
            rw [List.lookup_cons]
            have : (m == n) = false := by simpa using hb
            rw [this]; exact hm)
    | false =>
      obtain ⟨cl, e, a1, a2, a3⟩ := kM r acc (fun m hm => h1 m (List.mem_cons_of_mem _ hm)) h2
      refine ⟨cl, ?_, a1, fun m hm => ?_, a3⟩
      · simp only [Bool.false_eq_true, if_false]
        exact e
      · rcases List.mem_cons.mp hm with z | z
        · cases z; simp at hk
        · exact a2 m z
theorem iK {scope : Scope} {env : Env} (h : ∀ n, (n, NameKind.free) ∈ scope.names → ∃ c, env.cells.lookup n = some c) :
    ∃ cl, closureFor scope env = pure cl ∧ (∀ n c, cl.lookup n = some c → env.cells.lookup n = some c) ∧ (∀ n, (n, NameKind.free) ∈ scope.names → ∃ c, cl.lookup n = some c) := by
  obtain ⟨cl, e, a1, a2, _⟩ := kM (env := env) scope.names [] h (fun n c hn => by simp at hn)
  refine ⟨cl, ?_, a1, a2⟩
  simp only [closureFor]
  rw [e]
  rfl
noncomputable def cxBlock (X : Cx) (N' : List Str) (env' : Env) (A' : Around) (stack' : List Env) (s : Shared) (H : Hp) (ex : List Addr) : Cx :=
  { X with N := N', s₀ := s, H₀ := H, env := env', A := A', outer := X.stack, stack := stack', ex := ex, fn := fun _ => false, pn := [], xe := fun _ _ => False }
theorem md {X : Cx} {pins : List (Addr × Obj)} {σ aC : St} {H H' : Hp} {s : Shared} {N' : List Str} {env' : Env} {A' : Around} {stack' : List Env} {ex : List Addr} {h1 : Heap} {m0 : Str → Option Value} {g' : Array GenState} {tk : Nat}
    (I : Inv X pins σ H s) (w9 : env'.scope.kind = .function) (Jy : env'.globals = X.env.globals) (MD : env'.builtins = X.env.builtins)
    (ft : ∀ n c, env'.cells.lookup n = some c → X.env.cells.lookup n = some c)
    (GJ : ∀ x, (env'.kindOf x = some .cell ∨ env'.kindOf x = some .free) → ∃ c, env'.cells.lookup x = some c)
    (hh : X.calm = true → A'.handled = none) (yY : A'.frames = some stack') (ME : stack' = X.stack ∨ (stack' = env' :: X.stack ∧ env'.frame = some env'.locals))
    (hC : s.heap.objs.size ≤ env'.locals) (hf : ∀ b ∈ ex, dR X pins H b) (MF : ∀ b ∈ ex, b < s.heap.objs.size)
    (KH : Un (fo X.stack) ex H H' s.heap h1) (hok : cJ X.prog X.w H' h1) (yZ : H' env'.locals = none) (Du : ∀ b o, s.heap.get? b = some o → h1.get? b = some o) (jL : h1.Ns env'.locals m0)
    (GK : ∀ (i : Nat) (x : Str) (v : V), N'[i]? = some x → aC[i]? = some (some v) → sN env'.scope x → (env'.kindOf x = some .cell ∨ env'.kindOf x = some .free) ∧ sN X.env.scope x ∧ (X.env.kindOf x = some .cell ∨ X.env.kindOf x = some .free) ∧ ∃ j : Nat, X.N[j]? = some x ∧ σ[j]? = some (some v))
    (hlen : aC.length = N'.length) (hg : Gn s.gens.size g') : Inv (cxBlock X N' env' A' stack' s H ex) [] aC H' { s with heap := h1, gens := g', toks := tk } := by
  have KI : ∀ b ∈ ex, ∀ x c, X.env.cells.lookup x = some c → c ≠ b := fun b hb => (hf b hb).2.2.2.2.1
  refine ⟨⟨I.ok.mod, w9, Jy.trans I.ok.glob, MD.trans I.ok.blt, hC, fun x y c a b => I.ok.inj x y c (ft x c a) (ft y c b), GJ, fun _ _ z => (nomatch z), hh, yY, ME, fun b hb => ⟨Nat.ne_of_lt (Nat.lt_of_lt_of_le (MF b hb) hC), fun x c e => KI b hb x c (ft x c e)⟩,
      I.bs, Nat.le_trans I.ok.bsz I.sz, fun b o e hb => ?_, fun b hb z => ?_, I.stack, I.pV⟩, rfl, hg, KH, ⟨m0, jL, fun i x v e1 e2 e3 => ?_⟩, fun x c e => ?_, yZ, fun x c e => ?_, fun p hp => absurd (show p ∈ ([] : List (Addr × Obj)) from hp) (by simp), hok, hlen⟩
  · rcases (hf b hb).2.2.2.1 with z | z
    · exact I.ok.noex b o e z
    · exact absurd (Nat.lt_of_lt_of_le (Heap.lt_size e) (Nat.le_trans I.ok.bsz z)) (Nat.lt_irrefl _)
  · rcases List.mem_cons.mp (I.g8 b z) with q | q
    · exact (hf b hb).2.1 q
    · exact (hf b hb).2.2.1 q
  · obtain ⟨k1, vx, k2, j, n1, n2⟩ := GK i x v e1 e2 e3
    obtain ⟨m, hn, hl⟩ := I.loc
    obtain ⟨u, r, l⟩ := hl j x v n1 n2 vx
    refine ⟨u, r, .inr ⟨k1, ?_⟩⟩
    obtain ⟨c', KJ⟩ := GJ x k1
    rcases l with ⟨kl, _⟩ | ⟨_, c, ec, z⟩
    · rcases k2 with q | q <;> (rw [kl] at q; cases q)
    · have : c' = c := Option.some.inj ((ft x c' KJ).symm.trans ec)
      subst this
      exact ⟨c', KJ, z.keeps Du⟩
  · obtain ⟨v, z⟩ := I.cell x c (ft x c e)
    exact ⟨v, z.keeps Du⟩
  · obtain ⟨v, o, ho, hd⟩ := I.cell x c (ft x c e)
    exact KH.free c o ho (I.freeC x c (ft x c e)) fun z => KI c z x c (ft x c e) rfl
theorem lookup_map2 {c : Str → NameKind → NameKind} : ∀ {names : List (Str × NameKind)} {x : Str}, (names.map fun (p : Str × NameKind) => (p.1, c p.1 p.2)).lookup x = (names.lookup x).map (c x)
  | [], x => rfl
  | (n, k') :: r, x => by
    have ih := @lookup_map2 c r x
    rw [List.map_cons, List.lookup_cons, List.lookup_cons]
    cases hx : x == n with
    | true =>
      have e : x = n := by simpa using hx
      subst e
      rfl
    | false => exact ih
theorem gw {scope : Scope} {env : Env} (x : Str) : (relabel scope env).names.lookup x = (scope.names.lookup x).map fun k => if (k == .free && env.scope.kind == .function && env.kindOf x == some .cell) = true then .cell else k := by
  have e : (relabel scope env).names = scope.names.map fun p => (p.1, (fun n k => if (k == NameKind.free && env.scope.kind == .function && env.kindOf n == some .cell) = true then NameKind.cell else k) p.1 p.2) := by
    unfold relabel
    dsimp only
    congr 1
    funext p
    obtain ⟨n, k⟩ := p
    dsimp only
    split <;> rfl
  rw [e]
  exact lookup_map2 (c := fun n k => if (k == NameKind.free && env.scope.kind == .function && env.kindOf n == some .cell) = true then NameKind.cell else k)
noncomputable def aO (N : List Str) (sc scope : Scope) (N' : List Str) (tn : Nat) (idx : List Nat) : Prop :=
  scope.kind = .function ∧ (∀ y ∈ scope.names, y.2 ≠ .cell ∧ (y.2 = .local → scope.names.lookup y.1 = some .local) ∧ (y.2 = .free → sc.names.lookup y.1 = some .cell ∨ sc.names.lookup y.1 = some .free)) ∧
    N'.length = tn + idx.length ∧ ∀ p ∈ idx.zip (N'.drop tn), N[p.1]? = some p.2 ∧ scope.names.lookup p.2 = some .free
instance (N : List Str) (sc scope : Scope) (N' : List Str) (tn : Nat) (idx : List Nat) : Decidable (aO N sc scope N' tn idx) := by unfold aO; infer_instance
noncomputable def bL (tn : Nat) (idx : List Nat) (σ : St) : St := List.replicate tn none ++ idx.map fun i => (σ[i]?).join
theorem aO.at {N : List Str} {sc scope : Scope} {N' : List Str} {tn : Nat} {idx : List Nat} (B : aO N sc scope N' tn idx) {σ : St} {i : Nat} {x : Str} {v : V} (h1 : N'[i]? = some x) (h2 : (bL tn idx σ)[i]? = some (some v)) :
    scope.names.lookup x = some .free ∧ ∃ j : Nat, N[j]? = some x ∧ σ[j]? = some (some v) := by
  obtain ⟨_, _, b3, b4⟩ := B
  unfold bL at h2
  by_cases hi : i < tn
  · rw [List.getElem?_append_left (by simpa using hi), List.getElem?_replicate, if_pos hi] at h2
    cases h2
  · rw [List.getElem?_append_right (by simpa using hi), List.length_replicate, List.getElem?_map] at h2
    cases e : idx[i - tn]? with
    | none => rw [e] at h2; cases h2
    | some k =>
      rw [e] at h2
      have h3 : (σ[k]?).join = some v := Option.some.inj h2
      have e2 : (N'.drop tn)[i - tn]? = some x := by
        rw [List.getElem?_drop]
        have : tn + (i - tn) = i := by omega
        rw [this]; exact h1
      have m : (k, x) ∈ idx.zip (N'.drop tn) := by
        refine List.mem_of_getElem? (i := i - tn) ?_
        rw [List.getElem?_zip_eq_some]
        exact ⟨e, e2⟩
      obtain ⟨a, b⟩ := b4 _ m
      refine ⟨b, k, a, ?_⟩
      cases q : σ[k]? with
      | none => rw [q] at h3; cases h3
      | some w => rw [q] at h3; exact congrArg some h3
theorem aO.len {N : List Str} {sc scope : Scope} {N' : List Str} {tn : Nat} {idx : List Nat} (B : aO N sc scope N' tn idx) (σ : St) : (bL tn idx σ).length = N'.length := by
  rw [B.2.2.1]
  unfold bL
  simp
section
variable {X : Cx}
noncomputable def hV (X : Cx) (ifs : List Expr) (tt : TT) : Prop :=
  ∀ (pins : List (Addr × Obj)) (s : Shared) (σ : St) (H : Hp) (Q : Bool → Hp → Prop), Inv X pins σ H s → tt σ H Q →
    wpAny (model X.prog X.w) X.A (forIn ifs true fun c r => if r = true then do let ok ← isTrue c X.env (eval c X.env); pure (ForInStep.yield ok) else pure (ForInStep.yield r)) (TP X pins σ Q) X.xe s
noncomputable def nz : TT := fun _ H Q => Q true H
theorem qb : hV X [] nz := fun _ _ _ H _ I h => wpAny_tests_nil ⟨H, I, h⟩
theorem vZ {c : Expr} {tc : TT} (h : PT X c tc) : hV X [c] tc := fun pins s σ H Q I q => wpAny_tests_one (h pins s σ H Q I q)
noncomputable abbrev hZ (X : Cx) (N' : List Str) (scope : Scope) (cl : List (Str × Addr)) (C : Addr) (s : Shared) (H : Hp) (fp : List Addr) : Cx := cxBlock X N' (compEnvC scope cl C X.env) X.A X.stack s H fp
noncomputable abbrev Blk (X : Cx) (N' : List Str) (scope : Scope) (P : Cx → Prop) : Prop := ∀ (cl : List (Str × Addr)) (C : Addr) (s : Shared) (H : Hp) (fp : List Addr), P (hZ X N' scope cl C s H fp)
noncomputable def sv (J : It) (g : TG) (tt : TT) (te : TE) (D : Addr) (Q : VK) (W : Nat → Nat → St → Hp → Prop) : Prop := ∀ i m τ H, W i m τ H →
  (J.stop i H ∧ Q (.ref D) H) ∨ (J.go i H ∧ ∀ x H', J.yld i H x H' → g x τ H' fun aI H2 => tt aI H2 fun b H3 => if b = true then te aI H3 fun y H4 => ∃ ys m', H4 D = some (.lst ys) ∧ ys.length < sizeLine ∧ m' < m ∧ W (i + 1) m' aI (upd H4 D (.lst (ys ++ [y]))) else ∃ m', m' < m ∧ W (i + 1) m' aI H3)
noncomputable def xh (tn : Nat) (idx : List Nat) (wi : TI) (g : TG) (tt : TT) (te : TE) : TE := fun σ H Q => wi σ H fun J H1 => ∀ D, H1 D = none → ∃ W : Nat → Nat → St → Hp → Prop, (∃ m, W 0 m (bL tn idx σ) (upd H1 D (.lst []))) ∧ sv J g tt te D Q W
theorem qS {pins : List (Addr × Obj)} {σ : St} {H2 : Hp} {s2 : Shared} {tg elt iter : Expr} {ifs : List Expr} {scope : Scope} {pos : Pos} {N' : List Str} {tn : Nat} {idx : List Nat} {g : TG} {tt : TT} {te : TE} {it : Addr} {fp : List Addr} {bX : Nat → Heap → Prop} {J : It}
    {cl : List (Str × Addr)} {E : Value → Shared → Prop} {RR : Value → Addr → Result → Shared → Prop} {Q : VK}
    (hc : X.calm = true) (B : aO X.N X.env.scope scope N' tn idx)
    (hg : Blk X N' scope fun Y => PG Y tg g) (ht : Blk X N' scope fun Y => hV Y ifs tt) (he : Blk X N' scope fun Y => PE Y elt te)
    (I : Inv X pins σ H2 s2) (T : Turn X.prog X.w X.K tg J fp it bX) (st : bX 0 s2.heap) (f2 : ∀ b ∈ fp, dR X pins H2 b)
    (gx : ∀ n c, cl.lookup n = some c → X.env.cells.lookup n = some c) (je : ∀ n, (n, NameKind.free) ∈ scope.names → ∃ c, cl.lookup n = some c)
    (hq : ∀ D, H2 D = none → ∃ W : Nat → Nat → St → Hp → Prop, (∃ m, W 0 m (bL tn idx σ) (upd H2 D (.lst []))) ∧ sv J g tt te D Q W)
    (GL : ∀ D C m s' H', Inv X pins σ H' s' → dR X pins H' C → s'.heap.Ns C m → Q (.ref D) H' → RR (.ref D) C (.ok .next) s') :
    wpAny (model X.prog X.w) X.A (newList []) (fun acc fv => wpAny (model X.prog X.w) X.A (newFunctionEnv scope X.env.globals cl [] X.env.qual none .none (some X.env)) (fun tm BG =>
      codeAny (model X.prog X.w) X.A (.compStart (.ListComp elt [⟨tg, iter, ifs, 0⟩] scope pos) 0 (.ref it) acc { tm with scope := relabel scope X.env }) (RR acc tm.locals) BG) E fv) E s2 := by
  obtain ⟨b1, b2, b3, b4⟩ := id B
  refine wpAny_newObj_type (wpAny_newFunctionEnv (fun y hy => (b2 y hy).1) (by intro y hy; simp at hy) (fun dy jf gy => ?_) b1)
  dsimp only at jf gy ⊢
  generalize hG : s2.heap.push { cls := .type "list", dict := none, data := .seq ([] : List Value).toArray } = G at jf gy ⊢
  have hC : G.objs.size = s2.heap.objs.size + 1 := by rw [← hG, Heap.size_push]
  have y0 : s2.heap.objs.size ≠ G.objs.size := by rw [hC]; exact Nat.ne_of_lt (Nat.lt_succ_self _)
  have n5 : s2.heap.objs.size ≤ G.objs.size := by rw [hC]; exact Nat.le_succ _
  have below : ∀ b, b < s2.heap.objs.size → b ≠ G.objs.size := fun b hb => by rw [hC]; exact Nat.ne_of_lt (Nat.lt_succ_of_lt hb)
  have old : ∀ b o, s2.heap.get? b = some o → dy.get? b = some o := fun b o e => gy.extBut b o (below b (Heap.lt_size e)) (Heap.get?_push_of_some _ (hG ▸ Heap.get?_push_of_some _ e))
  have GN : dy.get? s2.heap.objs.size = some { cls := .type "list", data := .seq ([] : List Value).toArray } := gy.extBut _ _ y0 (Heap.get?_push_of_some _ (hG ▸ Heap.get?_push_size _ rfl))
  have y6 : H2 s2.heap.objs.size = none := I.hok.fresh (Nat.le_refl _)
  have yZ : upd H2 s2.heap.objs.size (.lst []) G.objs.size = none := by rw [ae (Ne.symm y0)]; exact I.hok.fresh n5
  have BH : cJ X.prog X.w (upd H2 s2.heap.objs.size (.lst [])) dy := I.hok.laid old (Nat.le_refl _) ⟨Nat.zero_le _, [], 0, .nil, GN⟩
  have me : ∀ b ∈ fp, b < s2.heap.objs.size := fun b hb => let ⟨o, e, _⟩ := T.obj _ _ st b hb; Heap.lt_size e
  obtain ⟨W, ⟨m0, w0⟩, turn⟩ := hq s2.heap.objs.size y6
  have I1 : Inv (hZ X N' scope cl G.objs.size s2 H2 fp) [] (bL tn idx σ) (upd H2 s2.heap.objs.size (.lst [])) { s2 with heap := dy, toks := s2.toks + ([] : List (Str × Value)).length } := by
    refine md (g' := s2.gens) (m0 := fun x => ([] : List (Str × Value)).reverse.lookup x) I b1 rfl rfl gx (fun x hx => ?_) (fun z => I.ok.hd z) I.ok.frames (.inl rfl) n5 f2 me (Un.laid old (Nat.le_refl _) y6) BH yZ old jf (fun i x v e1 e2 e3 => ?_) (B.len σ) I.bare.self
    · have jg : (relabel scope X.env).names.lookup x = some .cell ∨ (relabel scope X.env).names.lookup x = some .free := hx
      rw [gw] at jg
      cases q : scope.names.lookup x with
      | none => rw [q] at jg; rcases jg with z | z <;> cases z
      | some k0 =>
        have hm := PySem.mem_of_lookup q
        rw [q] at jg
        by_cases hk : k0 = .free
        · subst hk; exact je x hm
        · have nk : (k0 == NameKind.free) = false := by simpa using hk
          have nc := (b2 _ hm).1
          simp only [Option.map_some, nk, Bool.false_and, Bool.false_eq_true, if_false] at jg
          rcases jg with z | z
          · exact absurd (Option.some.inj z) nc
          · exact absurd (Option.some.inj z) hk
    · obtain ⟨fr, j, e4, e5⟩ := B.at e1 e2
      have kx := (b2 _ (PySem.mem_of_lookup fr)).2.2 rfl
      refine ⟨?_, .inr kx, kx, j, e4, e5⟩
      show (relabel scope X.env).names.lookup x = some .cell ∨ (relabel scope X.env).names.lookup x = some .free
      rw [gw, fr]
      simp only [Option.map_some]
      split
      · exact .inl rfl
      · exact .inr rfl
  have stat : ∀ {H' : Hp}, (∀ b ∈ fp, H' b = none) → ∀ b ∈ fp, dR (hZ X N' scope cl G.objs.size s2 H2 fp) [] H' b := fun hn b hb => by
    refine ⟨hn b hb, below b (me b hb), fun z => ?_, .inl hb, fun x c e => (f2 b hb).2.2.2.2.1 x c (gx x c e), fun p hp => absurd (show p ∈ ([] : List (Addr × Obj)) from hp) (by simp)⟩
    rcases List.mem_cons.mp (I.g8 b z) with q | q
    · exact (f2 b hb).2.1 q
    · exact (f2 b hb).2.2.1 q
  have loop : ∀ fv : Shared, fv = { s2 with heap := dy, toks := s2.toks + ([] : List (Str × Value)).length } →
      codeAny (model X.prog X.w) X.A (.compLoop (.ListComp elt [⟨tg, iter, ifs, 0⟩] scope pos) 0 (.ref it) (.ref s2.heap.objs.size) (compEnvC scope cl G.objs.size X.env))
        (RR (.ref s2.heap.objs.size) G.objs.size) fv := by
    rintro fv rfl
    refine codeAny_loop rfl (fun n s' => ∃ i τ H', Inv (hZ X N' scope cl G.objs.size s2 H2 fp) [] τ H' s' ∧ bX i s'.heap ∧ (∀ b ∈ fp, H' b = none) ∧ W i n τ H') (fun n s hI => ?_) m0
      ⟨0, _, _, I1, T.keep _ _ _ st fun b _ o e => old b o e, fun b hb => by rw [ae (Nat.ne_of_lt (me b hb))]; exact (f2 b hb).1, w0⟩
    show wpAny _ X.A ((compTurn (.ListComp elt [⟨tg, iter, ifs, 0⟩] scope pos) 0 (.ref it) (.ref s2.heap.objs.size) (compEnvC scope cl G.objs.size X.env)).onRaise (fun x => do noteFrame x (compEnvC scope cl G.objs.size X.env); theTreesLotGoes x)) _ _ s
    refine wpAny_noted ?_
    rw [compTurn_list]
    obtain ⟨i, τ, H3, I3, lV, qH, w3⟩ := hI
    rcases turn i n τ H3 w3 with ⟨stop, qn⟩ | ⟨go, step⟩
    · refine wpAny_bind (wpAny_standAt (wpAny_bind (wpAny_mono (T.done (hZ X N' scope cl G.objs.size s2 H2 fp) rfl rfl rfl hc i [] s τ H3 (fun _ _ => False) I3 (stat qH) lV stop) (fun r s4 ⟨hr, I4⟩ => ?_) fun _ _ z => z.elim)))
      subst hr
      refine wpAny_pure ?_
      have J2 : Inv X pins σ H3 s4 := I.oH I4.os I4.base I4.hok I4.bare fun b hb => ⟨(f2 b hb).2.2.2.1, (f2 b hb).2.1, (f2 b hb).2.2.2.2.1, (f2 b hb).2.2.2.2.2⟩
      obtain ⟨mm, hm, _⟩ := I4.loc
      exact GL _ _ mm s4 H3 J2 (I.pZ n5 I4.free) hm qn
    · refine wpAny_bind (wpAny_standAt (wpAny_bind (wpAny_mono (T.item (hZ X N' scope cl G.objs.size s2 H2 fp) rfl rfl rfl hc i [] s τ H3 (fun _ _ => False) I3 (stat qH) lV go) (fun r s4 ⟨u, hr, h4⟩ => ?_) fun _ _ z => z.elim)))
      subst hr
      refine wpAny_bind (wpAny_mono h4 (fun _ s5 ⟨x, H5, I5, r5, y5, gv, oJ⟩ => ?_) fun _ _ z => z.elim)
      have oK := I5.pinned (stat oJ) (T.obj _ _ gv)
      have again : ∀ {jh : St} {H7 : Hp} {s7 : Shared}, Inv (hZ X N' scope cl G.objs.size s2 H2 fp) ([] ++ gu fp s5.heap) jh H7 s7 → (∃ m', m' < n ∧ W (i + 1) m' jh H7) →
          ∃ m, m < n ∧ ∃ i τ H', Inv (hZ X N' scope cl G.objs.size s2 H2 fp) [] τ H' s7 ∧ bX i s7.heap ∧ (∀ b ∈ fp, H' b = none) ∧ W i m τ H' := fun {jh H7 s7} I7 n7 => by
        obtain ⟨m', hm, w7⟩ := n7
        refine ⟨m', hm, i + 1, jh, H7, I7.b6, T.keep _ _ _ gv fun b hb o e => (I7.pin (b, o) (List.mem_append_right _ (List.mem_append_right _ (bZ hb e)))).1, fun b hb => ?_, w7⟩
        obtain ⟨o, e, d⟩ := T.obj _ _ gv b hb
        exact (I7.pin (b, o) (List.mem_append_right _ (List.mem_append_right _ (bZ hb e)))).2.1
      refine wpAny_bind (wpAny_mono (hg cl G.objs.size s2 H2 fp _ s5 τ H5 x u _ oK r5 (step x H5 y5)) (fun _ s6 ⟨gJ, H6, I6, q6⟩ => ?_) fun _ _ z => z.elim)
      refine wpAny_bind (wpAny_mono (ht cl G.objs.size s2 H2 fp _ s6 gJ H6 _ I6 q6) (fun ok s7 ⟨H7, I7, q7⟩ => ?_) fun _ _ z => z.elim)
      cases ok with
      | false => exact wpAny_pure ⟨rfl, again I7 q7⟩
      | true =>
        refine wpAny_bind (wpAny_bind (wpAny_mono (he cl G.objs.size s2 H2 fp _ s7 gJ H7 _ I7 q7) (fun yv s8 ⟨y, H8, I8, r8, q8⟩ => ?_) fun _ _ z => z.elim))
        obtain ⟨ys, m', hD, hsz, mh, w8⟩ := q8
        refine wpAny_bind (wpAny_mono (l0 (X := hZ X N' scope cl G.objs.size s2 H2 fp) _ s8 gJ H8 (.ref s2.heap.objs.size) [y] (.ref s2.heap.objs.size) [yv] (fun v H9 => v = .aq ∧ H9 = upd H8 s2.heap.objs.size (.lst (ys ++ [y]))) I8 rfl (.cons r8 .nil) ⟨_, ys, y, rfl, rfl, hD, hsz, rfl, rfl⟩) (fun rv s9 ⟨v9, H9, I9, _, _, e9⟩ => ?_) fun _ _ z => z.elim)
        subst e9
        exact wpAny_pure (wpAny_pure ⟨rfl, again I9 ⟨m', mh, w8⟩⟩)
  exact codeAny_compStart_list (loop _ rfl) (T.self _ 0 _ _ _ (T.keep _ _ _ st fun b _ o e => old b o e) (loop _ rfl))
variable {tg elt iter : Expr} {ifs : List Expr} {scope : Scope} {pos : Pos} {N' : List Str} {tn : Nat} {idx : List Nat} {wi : TI} {g : TG} {tt : TT} {te : TE}
theorem dR.turn {pins : List (Addr × Obj)} {σ : St} {H : Hp} {s : Shared} {C : Addr} {h' : Heap} (f : dR X pins H C) (I : Inv X pins σ H s) (hs : Heap.SameBut C s.heap h') : Inv X pins σ H { s with heap := h' } :=
  I.turned (t' := s.toks) (fun b o hb e => (hs.2 b hb).trans e) f.1 f.2.1 f.2.2.2.1 f.2.2.2.2.1 f.2.2.2.2.2
theorem j1 (hc : X.calm = true) (B : aO X.N X.env.scope scope N' tn idx) (hi : PI X tg iter wi)
    (hg : Blk X N' scope fun Y => PG Y tg g) (ht : Blk X N' scope fun Y => hV Y ifs tt) (he : Blk X N' scope fun Y => PE Y elt te)
    (hs : ∀ x, foldedSetIterable iter X.env x = pure x := by intro _; rfl) : PE X (.ListComp elt [⟨tg, iter, ifs, 0⟩] scope pos) (xh tn idx wi g tt te) := by
  refine ⟨?_⟩
  intro pins s σ H Q I h
  obtain ⟨cl, kN, gx, je⟩ := iK (scope := scope) (env := X.env) fun n hn => I.ok.has n ((B.2.1 _ hn).2.2 rfl)
  rw [eval_ListComp]
  refine wpAny_comprehension_free (use := none) rfl hs kN B.1 (fun y hy => (B.2.1 y hy).2.1) (wpAny_mono (hi pins s σ H _ I h) (fun xv s1 h1 => wpAny_mono h1 (fun vP s2 h2 => ?_) fun _ _ z => z) fun _ _ z => z)
  obtain ⟨it, fp, bX, J, H2, e, I2, T, oI, f2, q2⟩ := h2
  subst e
  refine qS (RR := fun acc C => compPost (model X.prog X.w) X.A X.xe none (EP X pins σ Q) acc C) hc B hg ht he I2 T oI f2 gx je q2 fun D C m s' H' J2 fC hm q => ?_
  exact ⟨m, hm, fun h' qT => ⟨.ref D, H', fC.turn J2 qT, rfl, q⟩⟩
theorem oS {i : Nat} {y : Str} {py GO : Pos} (hN : X.N.Nodup) (gz : X.N[i]? = some y) (hy : X.env.scope.names.lookup y = some .local) (hc : X.calm = true) (B : aO X.N X.env.scope scope N' tn idx) (hi : PI X tg iter wi)
    (hg : Blk X N' scope fun Y => PG Y tg g) (ht : Blk X N' scope fun Y => hV Y ifs tt) (he : Blk X N' scope fun Y => PE Y elt te)
    (NS : swapsWith (.ListComp elt [⟨tg, iter, ifs, 0⟩] scope pos) (some (.Name y py)) GO.line X.env = pure true := by rfl)
    (hs : ∀ x, foldedSetIterable iter X.env x = pure x := by intro _; rfl) : PS X (.Assign [.Name y py] (.ListComp elt [⟨tg, iter, ifs, 0⟩] scope pos) GO) (wO (xh tn idx wi g tt te) (iJ i)) := by
  refine ⟨?_⟩
  intro pins s σ H D I h
  obtain ⟨cl, kN, gx, je⟩ := iK (scope := scope) (env := X.env) fun n hn => I.ok.has n ((B.2.1 _ hn).2.2 rfl)
  rw [exec_Assign_Name_used _ _ _ _ NS]
  refine wpAny_bind (wpAny_standAt (wpAny_bind ?_))
  show wpAny _ X.A (do let _ ← comprehension (.ListComp elt [⟨tg, iter, ifs, 0⟩] scope pos) scope X.env _ (newList []) false (eval iter X.env) (some (assign (.Name y py) X.env))) _ _ s
  refine wpAny_bind (wpAny_mono (wpAny_comprehension_free (use := some (assign (.Name y py) X.env)) (Q := fun _ s' => SP X pins D .next s') rfl hs kN B.1 (fun y hy => (B.2.1 y hy).2.1)
    (wpAny_mono (hi pins s σ H _ I h) (fun xv s1 h1 => wpAny_mono h1 (fun vP s2 h2 => ?_) fun _ _ z => z) fun _ _ z => z)) (fun _ s' hq => wpAny_pure (wpAny_pure hq)) fun _ _ z => z)
  obtain ⟨it, fp, bX, J, H2, e, I2, T, oI, f2, q2⟩ := h2
  subst e
  refine qS (RR := fun acc C => compPost (model X.prog X.w) X.A X.xe (some (assign (.Name y py) X.env)) (fun _ s' => SP X pins D .next s') acc C) hc B hg ht he I2 T oI f2 gx je q2 fun E C m s' H' J2 fC hm q => ?_
  show wpAny _ X.A (assign (.Name y py) X.env (.ref E)) _ _ s'
  refine wpAny_assign_Name (store_ok2 J2 hN gz (.inl hy) (v := .ref E) rfl (fun s3 J3 ⟨a, jM, ha⟩ => ?_) (.inr hy))
  have ji : C ≠ a := by
    rcases ha with z | z
    · rw [z]; exact fC.2.1
    · exact fun w => fC.2.2.2.2.1 _ _ z w.symm
  exact ⟨m, hm.sameBut jM ji, fun h' qT => ⟨_, H', fC.turn J3 qT, q⟩⟩
end
noncomputable def Tb (P : Addr) (H : Hp) : Prop := ∃ ps, H P = some (.cf ps) ∧ TriplesOk ps.toList
section
variable {X : Cx} {pins : List (Addr × Obj)} {σ : St} {H : Hp} {s : Shared} {P : Addr} {ps more : Array Value} {h' : Heap}
theorem Inv.grown (I : Inv X pins σ H s) (hP : H P = some (.cf ps)) (k : ∀ b o, b ≠ P → s.heap.get? b = some o → h'.get? b = some o) (n : h'.get? P = some { cls := .none, data := .fields (ps ++ more) }) (t' : Nat) :
    Inv X pins σ (upd H P (.cf (ps ++ more))) { s with heap := h', toks := t' } := by
  have ne : ∀ b u, H b = some u → u ≠ .cf ps → b ≠ P := fun b u e d => wN e hP d
  have nn : ∀ b, H b = none → b ≠ P := fun b e z => by rw [z, hP] at e; cases e
  refine I.un ⟨fun b o e q _ _ => k b o (nn b q) e, fun b o e q _ _ => ⟨o.slots, k b o (nn b q) e⟩, fun b o e q _ => by rw [ae (nn b q)]; exact q, fun b o e _ => ?_, fun b xs e => by rw [ae (ne b _ e (by intro z; cases z))]; exact e,
    fun b o u e => by rw [ae (ne b _ e (by intro z; cases z))]; exact e, fun b qs e => ?_⟩ fun b u e => ?_
  · by_cases hb : b = P
    · subst hb; exact ⟨_, n⟩
    · exact ⟨o, k b o hb e⟩
  · by_cases hb : b = P
    · subst hb
      rw [hP] at e; cases e
      exact ⟨more, aj⟩
    · exact ⟨#[], by rw [ae hb, e]; simp⟩
  · by_cases hb : b = P
    · subst hb
      rw [aj] at e; cases e
      exact n
    · rw [ae hb] at e
      refine (I.hok b u e).cp (fun c v hc q => k c v ?_ q) (fun c q => ?_) fun c xs q => ?_
      · rcases hc with z | z
        · rw [z]; exact hb
        · exact ne c _ z (by intro w; cases w)
      · rw [ae (ne c _ q (by intro w; cases w))]; exact q
      · rw [ae (ne c _ q (by intro w; cases w))]; exact q
theorem qd {c : Addr} {pos : Pos} {qn : Str} {scope : Scope} {Q : Value → Shared → Prop} {A : Around} {E : Value → Shared → Prop} (I : Inv X pins σ H s) (hc : X.env.code = .ref c) (hd : PySem.W.CodeHd X.base c P) (hP : H P = some (.cf ps)) (ht : TriplesOk ps.toList)
    (h : ∀ code c5 s', TriplesOk c5.toList → Inv X pins σ (upd H P (.cf c5)) s' → (∀ b o, b ≠ P → s.heap.get? b = some o → s'.heap.get? b = some o) → s'.gens = s.gens → Q code s') : wpAny (model X.prog X.w) A (genexprCode X.env pos qn scope) Q E s := by
  have KL : s.heap.get? P = some (PySem.W.tabObj ps) := I.hok P _ hP
  have jJ := hd.keeps I.bk
  have ic := jJ.code KL ht
  cases q : codeAmong pos ps.toList with
  | some c' =>
    refine wpAny_genexprCode_hit hc ic q (h c' ps s ht ?_ (fun _ _ _ e => e) rfl)
    have e : upd H P (.cf ps) = H := by
      funext b
      by_cases hb : b = P
      · subst hb; rw [aj, hP]
      · rw [ae hb]
    rw [e]; exact I
  | none =>
    refine wpAny_genexprCodeX hc ic (jJ.tab KL) q fun c' h' tk ex h1 h2 P8 _ ta _ => ?_
    obtain ⟨_, Dw⟩ := ta
    have tr : TriplesOk (ps ++ #[rawInt pos.line, rawInt pos.col, Value.ref c']).toList := by
      rw [Array.toList_append]
      exact TriplesOk_snoc _ _ _ _ ht
    exact h _ _ _ tr (I.grown hP (fun b o hb e => ex b o hb e) Dw tk) (fun b o hb e => ex b o hb e) rfl
end
noncomputable def kO (s bw : Shared) : Prop := bw.heap = s.heap ∧ bw.os = s.os ∧ Gn s.gens.size bw.gens
theorem Inv.j2 {X : Cx} {pins : List (Addr × Obj)} {σ : St} {H : Hp} {s bw : Shared} (I : Inv X pins σ H s) (o : kO s bw) : Inv X pins σ H bw := by
  obtain ⟨h, g, d, t, os⟩ := s
  obtain ⟨h', g', d', t', Dn⟩ := bw
  obtain ⟨e1, e2, e3⟩ := o
  cases e1
  cases e2
  exact ⟨I.ok, I.os, I.bare.trans e3, I.base, I.loc, I.cell, I.free, I.freeC, I.pin, I.hok, I.len⟩
section
variable {Y : Cx} {A2 : Around} {tg elt iter : Expr} {ifs : List Expr} {scope : Scope} {pos : Pos} {it : Addr} {fp : List Addr} {bX : Nat → Heap → Prop} {J : It} {g : TG} {tt : TT} {te : TE} {pp : List (Addr × Obj)} {R : GenEnd} {Yp : Protocol}
noncomputable def BI (J : It) (g : TG) (tt : TT) (te : TE) (stopAt : Bool) (Z : Bool → Hp → Prop) (W : Nat → Nat → St → Hp → Prop) : Prop := ∀ i m τ H, W i m τ H →
  (J.stop i H ∧ Z (!stopAt) H) ∨ (J.go i H ∧ ∀ x H', J.yld i H x H' → g x τ H' fun aI H2 => tt aI H2 fun b H3 => if b = true then te aI H3 fun y H4 => ∃ c, y = .bl c ∧ (if c = stopAt then Z stopAt H4 else ∃ m', m' < m ∧ W (i + 1) m' aI H4) else ∃ m', m' < m ∧ W (i + 1) m' aI H3)
theorem BJ (hA : Y.A = A2.over (.compLoop (.GeneratorExp elt [⟨tg, iter, ifs, 0⟩] scope pos) 0 (.ref it) .none Y.env) []) (tq : Y.xe = fun _ _ => False) (hc : Y.calm = true) (jN : Y.env.scope.isCoroutine = false)
    (T : Turn Y.prog Y.w Y.K tg J fp it bX) (hg : PG Y tg g) (ht : hV Y ifs tt) (he : PE Y elt te) (stat : ∀ {H' : Hp}, (∀ b ∈ fp, H' b = none) → ∀ b ∈ fp, dR Y pp H' b)
    {W : Nat → Nat → St → Hp → Prop} {Z : Bool → Hp → Prop} {stopAt : Bool} (turn : BI J g tt te stopAt Z W)
    (hR : ∀ n s₀ au τ H, Inv Y pp τ H au → Z (!stopAt) H → R n s₀ (.ok .next) au)
    (hY : ∀ n s₀ s jj c τ H, Inv Y pp τ H s → (c = stopAt → Z stopAt H) → (c ≠ stopAt → ∀ bw, kO s bw → jj (.send .none) bw) → Yp n s₀ (.bool c) s jj) :
    ∀ (m n i : Nat) (τ : St) (H : Hp) (s s₀ : Shared), m < n → W i m τ H → Inv Y pp τ H s → bX i s.heap → (∀ b ∈ fp, H b = none) →
      Seg (model Y.prog Y.w) A2 R Yp n s₀ (.compLoop (.GeneratorExp elt [⟨tg, iter, ifs, 0⟩] scope pos) 0 (.ref it) .none Y.env)
        ((model Y.prog Y.w).den (.compLoop (.GeneratorExp elt [⟨tg, iter, ifs, 0⟩] scope pos) 0 (.ref it) .none Y.env)) [] s := by
  intro m
  induction m using Nat.strongRecOn with
  | ind m ih =>
    intro n i τ H s s₀ NT w I st fr
    show Seg _ A2 _ _ _ s₀ _ ((compTurn (.GeneratorExp elt [⟨tg, iter, ifs, 0⟩] scope pos) 0 (.ref it) .none Y.env).onRaise (leaving Y.env)) [] s
    rw [compTurn_gen, Sem.onRaise_eq_wrap]
    rcases turn i m τ H w with ⟨stop, qn⟩ | ⟨go, step⟩
    · refine seg_bind_wrap (wpAny_standAt ?_)
      have d := T.done Y rfl rfl rfl hc i pp s τ H (fun _ _ => False) I (stat fr) st stop
      rw [hA] at d
      refine seg_bind_wrap (wpAny_mono d (fun r s1 ⟨hr, I1⟩ => ?_) fun _ _ z => z.elim)
      subst hr
      exact seg_end (.ok .next) (hR _ _ _ _ _ I1 qn)
    · refine seg_bind_wrap (wpAny_standAt ?_)
      have d := T.item Y rfl rfl rfl hc i pp s τ H (fun _ _ => False) I (stat fr) st go
      rw [hA] at d
      refine seg_bind_wrap (wpAny_mono d (fun r s4 ⟨u, hr, h4⟩ => ?_) fun _ _ z => z.elim)
      subst hr
      refine seg_bind_wrap (wpAny_mono h4 (fun _ s5 ⟨x, H5, I5, r5, y5, gv, oJ⟩ => ?_) fun _ _ z => z.elim)
      have oK := I5.pinned (stat oJ) (T.obj _ _ gv)
      have back : ∀ {jh : St} {H7 : Hp} {s7 : Shared}, Inv Y (pp ++ gu fp s5.heap) jh H7 s7 → bX (i + 1) s7.heap ∧ ∀ b ∈ fp, H7 b = none := fun {jh H7 s7} I7 => by
        refine ⟨T.keep _ _ _ gv fun b hb o e => (I7.pin (b, o) (List.mem_append_right _ (List.mem_append_right _ (bZ hb e)))).1, fun b hb => ?_⟩
        obtain ⟨o, e, d⟩ := T.obj _ _ gv b hb
        exact (I7.pin (b, o) (List.mem_append_right _ (List.mem_append_right _ (bZ hb e)))).2.1
      have d2 := hg _ s5 τ H5 x u _ oK r5 (step x H5 y5)
      rw [hA, tq] at d2
      refine seg_bind_wrap (wpAny_mono d2 (fun _ s6 ⟨gJ, H6, I6, q6⟩ => ?_) fun _ _ z => z.elim)
      have d3 := ht _ s6 gJ H6 _ I6 q6
      rw [hA, tq] at d3
      refine seg_bind_wrap (wpAny_mono d3 (fun ok s7 ⟨H7, I7, q7⟩ => ?_) fun _ _ z => z.elim)
      have hy : ∀ v, yieldOut Y.env v = yieldValue v := fun v => by simp only [yieldOut, jN, Bool.false_eq_true, if_false]
      cases ok with
      | false =>
        simp only [Bool.false_eq_true, if_false] at q7 ⊢
        obtain ⟨m', mh, w7⟩ := q7
        exact seg_again rfl (ih m' mh n (i + 1) gJ H7 s7 s₀ (by omega) w7 I7.b6 (back I7).1 (back I7).2)
      | true =>
        simp only [if_true] at q7 ⊢
        simp only [hy]
        rw [Sem.bind_eq_wrap', Sem.bind_eq_wrap', Sem.wrap_wrap, Sem.wrap_wrap]
        have d4 := he _ s7 gJ H7 _ I7 q7
        rw [hA, tq] at d4
        refine seg_wrap (wpAny_mono d4 (fun yv s8 ⟨y, H8, I8, r8, q8⟩ => ?_) fun _ _ z => z.elim)
        obtain ⟨c, ey, q8⟩ := q8
        subst ey
        cases (show yv = Value.bool c from r8)
        obtain ⟨n, rfl⟩ : ∃ n', n = n' + 1 := ⟨n - 1, by omega⟩
        refine seg_at (seg_yield rfl rfl rfl (hY _ _ _ _ c gJ H8 I8.b6 (fun e => by rw [if_pos e] at q8; exact q8) fun e bw ok => ?_))
        rw [if_neg e] at q8
        obtain ⟨m', mh, w8⟩ := q8
        have I9 := I8.j2 ok
        exact seg_again rfl (ih m' mh n (i + 1) gJ H8 bw bw (by omega) w8 I9.b6 (back I9).1 (back I9).2)
end
noncomputable abbrev dm (elt tg iter : Expr) (ifs : List Expr) (scope : Scope) (pos : Pos) : Expr := .GeneratorExp elt [⟨tg, iter, ifs, 0⟩] scope pos
noncomputable abbrev GP (X : Cx) (N' : List Str) (scope : Scope) (cl : List (Str × Addr)) (C : Addr) (code : Value) (A' : Around) (s : Shared) (H : Hp) (fp : List Addr) : Cx :=
  cxBlock X N' (genEnv scope cl C code builtinsNs X.env) A' (genEnv scope cl C code builtinsNs X.env :: X.stack) s H fp
noncomputable abbrev dS (X : Cx) (N' : List Str) (scope : Scope) (k : Nat) (P : Cx → Prop) : Prop := ∀ (cl : List (Str × Addr)) (C : Addr) (code : Value) (A' : Around) (s : Shared) (H : Hp) (fp : List Addr), bV k A' → P (GP X N' scope cl C code A' s H fp)
structure tu (X : Cx) (pins : List (Addr × Obj)) (σ : St) (N' : List Str) (scope : Scope) (tn : Nat) (idx : List Nat) (k : Nat) (elt tg iter : Expr) (ifs : List Expr) (pos : Pos) (J : It) (H3 : Hp) (a : Addr) (s5 : Shared)
    (Y : Cx) (it : Addr) (fp : List Addr) (bX : Nat → Heap → Prop) (g : Nat) (pp : List (Addr × Obj)) : Prop where
  inv : Inv Y pp (bL tn idx σ) H3 s5
  isg : ∀ {τ : St} {H' : Hp} {s' : Shared}, Inv Y pp τ H' s' → s'.heap.IsGen a g
  st : s5.gens[g]? = some (.fresh (.compStart (dm elt tg iter ifs scope pos) 0 (.ref it) .none Y.env))
  T : Turn Y.prog Y.w Y.K tg J fp it bX
  tn0 : bX 0 s5.heap
  fr : ∀ b ∈ fp, H3 b = none
  stat : ∀ {H' : Hp}, (∀ b ∈ fp, H' b = none) → ∀ b ∈ fp, dR Y pp H' b
  out : ∀ {τ : St} {H' : Hp} {s' : Shared}, Inv Y pp τ H' s' → Inv X pins σ H' s'
  A : Y.A = X.A.in4.in1.over (.compLoop (dm elt tg iter ifs scope pos) 0 (.ref it) .none Y.env) []
  xe : Y.xe = fun _ _ => False
  calm : Y.calm = true
  co : Y.env.scope.isCoroutine = false
  gsz : ∀ {τ : St} {H' : Hp} {s' : Shared}, Inv Y pp τ H' s' → g < s'.gens.size
  blk : ∀ P : Cx → Prop, dS X N' scope k P → P Y
  prog : Y.prog = X.prog
  w : Y.w = X.w
section
variable {X : Cx} {tg elt iter : Expr} {ifs : List Expr} {scope : Scope} {pos : Pos} {N' : List Str} {tn : Nat} {idx : List Nat} {wi : TI} {g : TG} {tt : TT} {te : TE} {c P : Addr} {k : Nat}
noncomputable def Dx (P : Addr) (wi : TI) (R : It → Hp → Prop) : St → Hp → Prop := fun σ H => wi σ H fun J H1 => Tb P H1 ∧ ∀ ps, TriplesOk ps.toList → R J (upd H1 P (.cf ps))
theorem tD {pins : List (Addr × Obj)} {s : Shared} {σ : St} {H : Hp} {QQ : Value → Shared → Prop} {R : It → Hp → Prop} (hr : bV (k + 1) X.A) (hc : X.calm = true) (B : aO X.N X.env.scope scope N' tn idx)
    (h0 : scope.names.lookup (".0" : Str) = some .local) (jN : scope.isCoroutine = false) (iL : X.env.code = .ref c) (hd : PySem.W.CodeHd X.base c P) (dh : ∃ bm ob, BMod X.base mainGlobals X.mg bm ob)
    (hi : PI X tg iter wi) (hs : ∀ x, genFold iter X.env x = pure x) (I : Inv X pins σ H s) (h : Dx P wi R σ H)
    (q : ∀ J H3 a s5 Y it fp bX gn pp, tu X pins σ N' scope tn idx k elt tg iter ifs pos J H3 a s5 Y it fp bX gn pp → R J H3 → QQ (.ref a) s5) :
    wpAny (model X.prog X.w) X.A (eval (dm elt tg iter ifs scope pos) X.env) QQ X.xe s := by
  obtain ⟨cl, kN, gx, je⟩ := iK (scope := scope) (env := X.env) fun n hn => I.ok.has n ((B.2.1 _ hn).2.2 rfl)
  refine wpAny_GeneratorExp_make jN kN (fun y hy => (B.2.1 y hy).1) h0 B.1 hr.depth (thn (hi pins s σ H _ I h) fun xv s1 h1 => thn h1 fun vP s2 h2 => ?_) hs
  obtain ⟨it, fp, bX, J, H2, e, I2, T, oI, f2, ⟨ps, hP, y7⟩, q2⟩ := h2
  subst e
  refine ⟨I2.nolimit, qd I2 iL hd hP y7 fun code c5 s3 NU I3 kp P9 => ?_⟩
  obtain ⟨bm, ob, bmod⟩ := dh
  have tE := bmod.keeps I3.bk
  refine wpAny_builtinsFor (by rw [I3.ok.glob]; exact tE.ns) tE.name tE.ne tE.obj tE.cls tE.dict tE.data ?_
  intro h' sP qT
  have KN : ∀ b ∈ fp, b ≠ P := fun b hb z => by have := (f2 b hb).1; rw [z, hP] at this; cases this
  have lV : bX 0 s3.heap := T.keep _ _ _ oI fun b hb o e => kp b o (KN b hb) e
  have me : ∀ b ∈ fp, b < s3.heap.objs.size := fun b hb => let ⟨o, e, _⟩ := T.obj _ _ lV b hb; Heap.lt_size e
  have f3 : ∀ b ∈ fp, dR X pins (upd H2 P (.cf c5)) b := fun b hb => ⟨by rw [ae (KN b hb)]; exact (f2 b hb).1, (f2 b hb).2⟩
  have hsz : h'.objs.size = s3.heap.objs.size + 1 := by rw [qT.1, Heap.size_push]
  have Jz : ∀ b o, s3.heap.get? b = some o → h'.get? b = some o := fun b o e => qT.extBut b o (Nat.ne_of_lt (Heap.lt_size e)) (Heap.get?_push_of_some _ e)
  have KO : Gn s3.gens.size (s3.gens.push (.fresh (.compStart (dm elt tg iter ifs scope pos) 0 (.ref it) .none (genEnv scope cl s3.heap.objs.size code builtinsNs X.env)))) := ⟨AllBare.push I3.bare.1 rfl, by rw [Array.size_push]; exact Nat.le_succ _⟩
  have KP : Inv X pins σ (upd H2 P (.cf c5)) { s3 with gens := s3.gens.push (.fresh (.compStart (dm elt tg iter ifs scope pos) 0 (.ref it) .none (genEnv scope cl s3.heap.objs.size code builtinsNs X.env))) } := I3.j2 ⟨rfl, rfl, KO⟩
  have hA : (X.A.in4.in1.over (.compLoop (dm elt tg iter ifs scope pos) 0 (.ref it) .none (genEnv scope cl s3.heap.objs.size code builtinsNs X.env)) []).frames = some (genEnv scope cl s3.heap.objs.size code builtinsNs X.env :: X.stack) := by
    show pushEnvs [_] (pushEnvs [] X.A.frames) = _
    rw [I.ok.frames]; rfl
  have kP : bV k (X.A.in4.in1.over (.compLoop (dm elt tg iter ifs scope pos) 0 (.ref it) .none (genEnv scope cl s3.heap.objs.size code builtinsNs X.env)) []) := by
    refine ⟨hr.hd, ?_, ?_⟩
    · show X.A.depth + 0 + 1 + 3 * k + 5 < recursionLimit
      have := hr.dp
      omega
    · show X.A.units + 1 + 1 + 1 + 1 + 1 + 0 + 3 + 16 * k + 200 < cLine
      have := hr.un
      omega
  generalize oT : ({ cls := .type "generator", data := .fields #[.int s3.gens.size 0, .str "<genexpr>" (s3.toks + 1), .str (X.env.qual ++ "<genexpr>") (s3.toks + 1 + 1)] } : Obj) = nO
  have sx : ∀ b o, s3.heap.get? b = some o → (h'.push nO).get? b = some o := fun b o e => Heap.get?_push_of_some _ (Jz b o e)
  have MG : nO.isFreed = false := by rw [← oT]; rfl
  have NV : (h'.push nO).get? h'.objs.size = some nO := Heap.get?_push_size _ MG
  have NW : h'.objs.size ≠ s3.heap.objs.size := by rw [hsz]; exact Nat.succ_ne_self _
  have NX : upd H2 P (.cf c5) h'.objs.size = none := I3.hok.fresh (by rw [hsz]; exact Nat.le_succ _)
  have I5 := md (X := X) (N' := N') (A' := X.A.in4.in1.over (.compLoop (dm elt tg iter ifs scope pos) 0 (.ref it) .none (genEnv scope cl s3.heap.objs.size code builtinsNs X.env)) []) (env' := genEnv scope cl s3.heap.objs.size code builtinsNs X.env) (stack' := genEnv scope cl s3.heap.objs.size code builtinsNs X.env :: X.stack) (ex := fp) (h1 := h'.push nO) (m0 := fun y => if y = ".0" then some (.ref it) else none)
    (g' := s3.gens.push (.fresh (.compStart (dm elt tg iter ifs scope pos) 0 (.ref it) .none (genEnv scope cl s3.heap.objs.size code builtinsNs X.env)))) (tk := s3.toks + 1 + 1 + 1) (aC := bL tn idx σ) KP B.1 rfl I3.ok.blt.symm gx (fun x hx => by
      have jg : scope.names.lookup x = some .cell ∨ scope.names.lookup x = some .free := hx
      rcases jg with z | z
      · exact absurd rfl ((B.2.1 _ (PySem.mem_of_lookup z)).1)
      · exact je x (PySem.mem_of_lookup z)) (fun z => I.ok.hd z) hA (.inr ⟨rfl, rfl⟩) (Nat.le_refl _) f3 me (Un.kept sx) (I3.hok.kept sx) (I3.hok.fresh (Nat.le_refl _)) sx (sP.push _) (fun i x v e1 e2 e3 => by
      obtain ⟨fr, j, e4, e5⟩ := B.at e1 e2
      have kx := (B.2.1 _ (PySem.mem_of_lookup fr)).2.2 rfl
      exact ⟨.inr fr, .inr kx, kx, j, e4, e5⟩) (B.len σ) (Gn.self KO)
  have NY : h'.objs.size ∉ fo X.stack := fun z => by
    rcases List.mem_cons.mp (I3.g8 _ z) with q | q
    · exact Nat.ne_of_gt (Nat.lt_of_lt_of_le I3.lt (by rw [hsz]; exact Nat.le_succ _)) q
    · exact I3.FR (by rw [hsz]; exact Nat.le_succ _) q
  have sq : ∀ v, nO.data ≠ .cell v := by rw [← oT]; intro v z; cases z
  have I6 := I5.pW (pins' := [(h'.objs.size, nO)]) (fun p hp => by
    rcases List.mem_singleton.mp hp with rfl
    exact ⟨NV, NX, NW, NY, sq⟩)
  refine q J _ _ _ (GP X N' scope cl s3.heap.objs.size code _ _ _ fp) it fp bX s3.gens.size [(h'.objs.size, nO)] ⟨I6, fun {τ H' s'} J' => ?_, ?_, T, T.keep _ _ _ lV fun b _ o e => sx b o e, fun b hb => (f3 b hb).1, fun {H'} hn b hb => ?_, fun {τ H' s'} J' => ?_, rfl, rfl, hc, jN, fun {τ H' s'} J' => ?_, fun Pp hb => hb cl _ code _ _ _ fp kP, rfl, rfl⟩ (q2 c5 NU)
  · have := (J'.pin (h'.objs.size, nO) (List.mem_append_right _ (List.mem_singleton.mpr rfl))).1
    exact ⟨nO, _, _, this, by rw [← oT], by rw [← oT], by rw [← oT]⟩
  · exact Array.getElem?_push_size ..
  · refine ⟨hn b hb, Nat.ne_of_lt (me b hb), fun z => ?_, .inl hb, fun x c e => (f2 b hb).2.2.2.2.1 x c (gx x c e), fun p hp z => ?_⟩
    · rcases List.mem_cons.mp (I2.g8 b z) with q | q
      · exact (f2 b hb).2.1 q
      · exact (f2 b hb).2.2.1 q
    · rcases List.mem_singleton.mp hp with rfl
      have z' : h'.objs.size = b := z
      have := me b hb
      rw [← z', hsz] at this
      exact absurd this (Nat.not_lt.mpr (Nat.le_succ _))
  · exact KP.oH J'.os J'.base J'.hok J'.bare fun b hb => ⟨(f3 b hb).2.2.2.1, (f3 b hb).2.1, (f3 b hb).2.2.2.2.1, (f3 b hb).2.2.2.2.2⟩
  · have := J'.bare.2
    have e : (GP X N' scope cl s3.heap.objs.size code (X.A.in4.in1.over (.compLoop (dm elt tg iter ifs scope pos) 0 (.ref it) .none (genEnv scope cl s3.heap.objs.size code builtinsNs X.env)) []) { s3 with gens := s3.gens.push (.fresh (.compStart (dm elt tg iter ifs scope pos) 0 (.ref it) .none (genEnv scope cl s3.heap.objs.size code builtinsNs X.env))) } (upd H2 P (.cf c5)) fp).s₀.gens.size = s3.gens.size + 1 := by
      show (s3.gens.push _).size = _
      rw [Array.size_push]
    rw [e] at this
    omega
theorem BK {prog : Program} {w : World} {A : Around} {a : Addr} {R' : Result → Shared → Prop} (In : Nat → Shared → Prop)
    (turn : ∀ n s, In n s → wpAny (model prog w) A.in1 (pyNext (.ref a)) (fun r s1 => match r with
      | none => R' (.ok (.ret (.bool true))) s1
      | some v => ∃ c, v = .bool c ∧ if c = true then ∃ m, m < n ∧ In m s1 else R' (.ok (.ret (.bool false))) s1) (fun e s' => R' (.error e) s') s) :
    ∀ (n : Nat) (s : Shared), In n s → codeAny (model prog w) A (.builtin "all.loop" ⟨[.ref a], []⟩) R' s := by
  intro n
  induction n using Nat.strongRecOn with
  | ind n ih =>
    intro s h
    refine codeAny_builtin F.entry_all_loop ?_
    rw [Around.under_plainId F.plain_all_loop _]
    show wpAny _ A.in1 (pyNext (.ref a) >>= _) _ _ s
    refine wpAny_bind (wpAny_mono (turn n s h) (fun r s1 q => ?_) fun _ _ z => z)
    cases r with
    | none => exact wpAny_bind (wpAny_rule (wpAny_pure q))
    | some v =>
      obtain ⟨c, e, q⟩ := q
      subst e
      refine wpAny_bind (wpAny_holding (wpAny_truthy_bool ?_))
      refine wpAny_bind (wpAny_letGo ?_)
      cases c with
      | true =>
        simp only [if_true] at q ⊢
        obtain ⟨m, hm, hI⟩ := q
        exact wpAny_pure ⟨plainId_quiet F.plain_all_loop _, ih m hm s1 hI⟩
      | false =>
        simp only [Bool.false_eq_true, if_false] at q ⊢
        exact wpAny_bind (wpAny_rule (wpAny_pure q))
theorem gm {s : Shared} {g : Nat} {x : GenState} {n : Nat} (h : Gn n s.gens) (hx : x.bare = true) : Gn s.gens.size (s.setGen g x).gens := by
  refine ⟨fun y hy => ?_, ?_⟩
  · have NZ : y ∈ s.gens.setIfInBounds g x := hy
    rcases Array.mem_or_eq_of_mem_setIfInBounds NZ with z | z
    · exact h.1 y z
    · rw [z]; exact hx
  · show s.gens.size ≤ (s.gens.setIfInBounds g x).size
    rw [Array.size_setIfInBounds]
    exact Nat.le_refl _
theorem qU {s : Shared} {g : Nat} {x : GenState} (h : g < s.gens.size) : (s.setGen g x).gens[g]? = some x := by
  show (s.gens.setIfInBounds g x)[g]? = _
  rw [Array.getElem?_setIfInBounds_self]
  simp [h]
theorem qV {Y : Cx} {A2 : Around} {R : GenEnd} {Yp : Protocol} {n : Nat} {s₀ s : Shared} {it : Addr} {J : It} {fp : List Addr} {bX : Nat → Heap → Prop} (T : Turn Y.prog Y.w Y.K tg J fp it bX) {i : Nat} (st : bX i s.heap)
    (loop : Seg (model Y.prog Y.w) A2 R Yp n s₀ (.compLoop (dm elt tg iter ifs scope pos) 0 (.ref it) .none Y.env) ((model Y.prog Y.w).den (.compLoop (dm elt tg iter ifs scope pos) 0 (.ref it) .none Y.env)) [] s) :
    Seg (model Y.prog Y.w) A2 R Yp n s₀ (.compStart (dm elt tg iter ifs scope pos) 0 (.ref it) .none Y.env) ((model Y.prog Y.w).den (.compStart (dm elt tg iter ifs scope pos) 0 (.ref it) .none Y.env)) [] s := by
  show Seg _ A2 _ _ _ s₀ _ ((compStart (dm elt tg iter ifs scope pos) 0 (.ref it) .none Y.env).onRaise (leaving Y.env)) [] s
  unfold compStart
  rw [Sem.onRaise_eq_wrap]
  show Seg _ A2 _ _ _ s₀ _ ((ask >>= _).wrap _ _ _ _) [] s
  refine seg_bind_wrap (wpAny_askSetting ?_)
  split
  · exact seg_again rfl loop
  · first
      | exact seg_bind_wrap (wpAny_rule (seg_bind_wrap (wpAny_standAt (seg_bind_wrap (T.self _ i s _ _ st (seg_again rfl loop))))))
      | (refine seg_bind_wrap (wpAny_rule ?_); show Seg _ A2 _ _ _ s₀ _ ((standAt iter.pos >>= _).wrap _ _ _ _) [] s; exact seg_bind_wrap (wpAny_standAt (seg_bind_wrap (T.self _ i s _ _ st (seg_again rfl loop)))))
noncomputable def GQ (P : Addr) (tn : Nat) (idx : List Nat) (wi : TI) (g : TG) (tt : TT) (te : TE) : TE := fun σ H Q => Dx P wi (fun J H1 => ∃ W : Nat → Nat → St → Hp → Prop, (∃ m, W 0 m (bL tn idx σ) H1) ∧ BI J g tt te false (fun b H2 => Q (.bl b) H2) W) σ H
theorem GR {p jk : Pos} (hr : bV (k + 1) X.A) (hc : X.calm = true) (B : aO X.N X.env.scope scope N' tn idx)
    (h0 : scope.names.lookup (".0" : Str) = some .local) (jN : scope.isCoroutine = false) (iL : X.env.code = .ref c) (hd : PySem.W.CodeHd X.base c P) (dh : ∃ bm ob, BMod X.base mainGlobals X.mg bm ob)
    (mi : Gl X "all") (hm : X.mg "all" = none) (hi : PI X tg iter wi) (hg : dS X N' scope k fun Y => PG Y tg g) (ht : dS X N' scope k fun Y => hV Y ifs tt) (he : dS X N' scope k fun Y => PE Y elt te)
    (hs : ∀ x, genFold iter X.env x = pure x := by intro _; rfl) : PE X (.Call (.Name "all" p) [dm elt tg iter ifs scope jk] [] pos) (GQ P tn idx wi g tt te) := by
  refine ⟨?_⟩
  intro pins s σ H Q I h
  refine wpAny_Call_Name_kw (fE I mi hm PyProof.Rows.boot_all ?_)
  refine PyProof.Rows.callWith_builtin1 ?_ rfl rfl
  show wpAny _ _ (spliced ((false, eval (dm elt tg iter ifs scope jk) X.env) :: [])) _ _ s
  refine Calls.spliced_cons (tD hr hc B h0 jN iL hd dh hi hs I h ?_)
  intro J H3 a s5 Y it fp bX gn pp G ⟨W, ⟨m0, w0⟩, turn⟩
  refine Calls.spliced_nil ?_
  refine call_function_tree F.kind_all F.plain_all F.entry_all (F.args_all1 _) ?_
  unfold Builtin.«all»
  refine wpAny_bind (m := oneArg "all" _) (wpAny_pure ?_)
  refine wpAny_bind (wpAny_pyIter_gen (G.isg G.inv) ?_)
  refine wpAny_pure ⟨plainId_quiet F.plain_all_loop _, ?_⟩
  have xi := BJ (A2 := X.A.in4.in1) (pp := pp) (R := fun n s₀ r au => r = .ok .next ∧ ∃ τ H, Inv Y pp τ H au ∧ Q (.bl true) H)
    (Yp := fun n s₀ v s jj => ∃ c τ H, v = .bool c ∧ Inv Y pp τ H s ∧ (c = false → Q (.bl false) H) ∧ (c ≠ false → ∀ bw, kO s bw → jj (.send .none) bw)) G.A G.xe G.calm G.co G.T (G.blk _ hg) (G.blk _ ht) (G.blk _ he) G.stat turn
    (fun n s₀ au τ H J z => ⟨rfl, τ, H, J, z⟩) (fun n s₀ s jj c τ H J z1 z2 => ⟨c, τ, H, rfl, J, z1, z2⟩)
  have hP := G.prog
  have hW := G.w
  rw [hP, hW] at xi
  refine BK (A := X.A) (fun n s => (∃ τ H, Inv Y pp τ H s) ∧ ∃ gs, s.gens[gn]? = some gs ∧ ∀ bw, kO s bw → gs.Goes (model X.prog X.w) X.A.in4.in1 (fun n s₀ r au => r = .ok .next ∧ ∃ τ H, Inv Y pp τ H au ∧ Q (.bl true) H)
    (fun n s₀ v s jj => ∃ c τ H, v = .bool c ∧ Inv Y pp τ H s ∧ (c = false → Q (.bl false) H) ∧ (c ≠ false → ∀ bw, kO s bw → jj (.send .none) bw)) n (.send .none) bw) ?_ (m0 + 1) s5 ?_
  · rintro n s6 ⟨⟨τ, H6, I6⟩, gs, GU, oT⟩
    have PZ := G.gsz I6
    refine wpAny_of_in1 (wpAny_of_in1 (wpAny_of_in1 ?_))
    show wpAny (model X.prog X.w) X.A.in4 (pyNext (.ref a)) _ _ s6
    refine wpAny_pyNext_genexpQ (A := X.A.in4) (P := fun n s₀ au => ∃ τ H, Inv Y pp τ H au ∧ Q (.bl true) H) hr.hd I6.nolimit hr.depth (G.isg I6) GU (oT _ ⟨rfl, rfl, gm I6.bare rfl⟩) (fun v s1 y8 hb hv => ?_) (fun s1 hp h' hk => ?_)
    · obtain ⟨c, v3, H1, e, I1, z1, z2⟩ := hv
      subst e
      refine ⟨c, rfl, ?_⟩
      have tF : kO s1 (s1.setGen gn y8) := ⟨rfl, rfl, gm I1.bare hb⟩
      cases c with
      | false =>
        rw [if_neg Bool.false_ne_true]
        exact ⟨.bl false, H1, G.out (I1.j2 tF), rfl, z1 rfl⟩
      | true =>
        rw [if_pos rfl]
        have z3 := z2 (by decide)
        cases n with
        | zero => exact (z3 s1 ⟨rfl, rfl, I1.bare.self⟩).elim
        | succ m =>
          refine ⟨m, Nat.lt_succ_self _, ⟨v3, H1, I1.j2 tF⟩, y8, qU (G.gsz I1), fun bw o => z3 bw ⟨o.1, o.2.1, ?_⟩⟩
          exact tF.2.2.trans o.2.2
    · obtain ⟨v3, H1, I1, z1⟩ := hp
      have I2 := I1.kept (t' := s1.toks) hk
      have GV : kO { s1 with heap := h' } { s1.setGen gn .finished with heap := h' } := ⟨rfl, rfl, gm (s := s1) I1.bare rfl⟩
      exact ⟨.bl true, H1, G.out (I2.j2 GV), rfl, z1⟩
  · refine ⟨⟨_, _, G.inv⟩, _, G.st, fun bw o => ⟨rfl, ?_⟩⟩
    have I7 := G.inv.j2 o
    have y9 : bX 0 bw.heap := by rw [o.1]; exact G.tn0
    have q := qV (iter := iter) (ifs := ifs) (scope := scope) (pos := jk) (elt := elt) G.T y9 (by rw [hP, hW]; exact xi m0 (m0 + 1) 0 _ _ bw bw (Nat.lt_succ_self _) w0 I7 y9 G.fr)
    rw [hP, hW] at q
    exact q
end
noncomputable def zb (x : Str) : It := ⟨fun i _ => i < x.length, fun i H v H' => H' = H ∧ ∃ c, x.cps[i]? = some c ∧ v = .str ⟨#[c]⟩, fun i _ => x.length ≤ i⟩
theorem tG {P : Program} {w : World} {K : PySem.W.Frag} {tg : Expr} (it : Addr) (x : Str) (t : Tok) (ty : String) (sY : ["enumerate", "zip", "dict_itemiterator", "dict_reverseitemiterator", "odict_iterator", "itertools.zip_longest", "itertools.pairwise"].contains ty = false)
    (W : ∀ A : Around, A.handled = none → Walks P w A it [it] [it] x.cps.size (SignAt x) (fun i h => h.IsStrIter it ty x t i))
    (self : ∀ (A : Around) (i : Nat) (s : Shared) (Q : Value → Shared → Prop) (E : Value → Shared → Prop), s.heap.IsStrIter it ty x t i → Q (.ref it) s → wpAny (model P w) A (pyIter (.ref it)) Q E s) :
    Turn P w K tg (zb x) [it] it (fun i h => h.IsStrIter it ty x t i ∧ i ≤ x.length) where
  mem := by simp
  obj := fun i h st b hb => by
    have e : b = it := by simpa using hb
    subst e
    obtain ⟨⟨o, ho, _, hd⟩, _⟩ := st
    exact ⟨o, ho, fun v z => by rw [hd] at z; cases z⟩
  keep := fun i h h' st k => ⟨let ⟨o, ho, r⟩ := st.1; ⟨o, k it (by simp) o ho, r⟩, st.2⟩
  item := by
    intro X hP hw hK hc i pins s σ H E I hf st hg
    subst hP hw hK
    obtain ⟨f0, f1, f2, f3, f4, f5⟩ := hf it (by simp)
    have GW : i < x.cps.size := hg
    refine (W X.A (I.ok.hd hc)).item i s _ _ GW st.1 fun v h' tk hv lU kk => ?_
    obtain ⟨c, u, N0, rfl⟩ := hv
    have I1 : Inv X pins σ H { s with heap := h', toks := tk } := I.turned (fun b o hb e => kk b o (by simpa using hb) e) f0 f1 f3 f4 f5
    obtain ⟨o, ho, ft, hd⟩ := id lU
    exact ⟨_, rfl, sr (s := { s with heap := h', toks := tk }) (n := ty) ho ft hd sY ⟨.str ⟨#[c]⟩, H, I1, ⟨u, rfl⟩, ⟨rfl, c, N0, rfl⟩, ⟨lU, GW⟩, fun b hb => (hf b hb).1⟩⟩
  done := by
    intro X hP hw hK hc i pins s σ H E I hf st hg
    subst hP hw hK
    obtain ⟨f0, f1, f2, f3, f4, f5⟩ := hf it (by simp)
    have e : i = x.cps.size := Nat.le_antisymm st.2 hg
    subst e
    exact (W X.A (I.ok.hd hc)).done s _ _ st.1 fun h' tk kk => ⟨rfl, I.turned (fun b o hb e => kk b o (by simpa using hb) e) f0 f1 f3 f4 f5⟩
  self := fun A i s Q E st h => self A i s Q E st.1 h
section
variable {X : Cx} {tg l : Expr} {tl : TE}
noncomputable def MH (tl : TE) : TI := fun σ H R => tl σ H fun x H1 => ∃ z, x = .str z ∧ R (zb z) H1
theorem GX (hl : PE X l tl) : PI X tg l (MH tl) := by
  intro pins s σ H R I h
  refine thn (hl pins s σ H _ I h) fun v s1 ⟨y, H1, I1, r1, q1⟩ => ?_
  obtain ⟨z, rfl, q⟩ := q1
  obtain ⟨t, rfl⟩ := r1
  have fin : ∀ (o : Obj) (ty : String), (∀ v, o.data ≠ .cell v) → (s1.heap.push o).IsStrIter s1.heap.objs.size ty z t 0 → Turn X.prog X.w X.K tg (zb z) [s1.heap.objs.size] s1.heap.objs.size (fun i h => h.IsStrIter s1.heap.objs.size ty z t i ∧ i ≤ z.length) → F7 X pins σ tg R (.ref s1.heap.objs.size) { s1 with heap := s1.heap.push o } := fun o ty hd hit T =>
    ⟨_, [s1.heap.objs.size], _, zb z, H1, rfl, I1.kept (t' := s1.toks) (fun b u e => Heap.get?_push_of_some _ e), T, ⟨hit, Nat.zero_le _⟩, fun b hb => by
      have e : b = s1.heap.objs.size := by simpa using hb
      subst e
      exact I1.pZ (Nat.le_refl _) (I1.hok.fresh (Nat.le_refl _)), q⟩
  cases ha : z.cps.all (· < 128)
  · exact wpAny_pyIter_wide ha (fin _ "str_iterator" (fun v e => by cases e) ⟨_, Heap.get?_push_size _ rfl, rfl, rfl⟩ (tG _ z t _ (by decide) (fun A' hA => Walks.strWide hA _ z t) fun A i s Q E st h => wpAny_pyIter_striter_wide st h))
  · exact wpAny_pyIter_ascii ha (fin _ "str_ascii_iterator" (fun v e => by cases e) ⟨_, Heap.get?_push_size _ rfl, rfl, rfl⟩ (tG _ z t _ (by decide) (fun A' hA => Walks.strAscii hA _ z t) fun A i s Q E st h => wpAny_pyIter_striter_ascii st h))
noncomputable def MI : V → Option Int → Option Int → Hp → VK → Prop := fun x lo hi H Q => ∃ z, x = .str z ∧ z.length ≤ sizeLine ∧ Q (.str (Txt.slice z lo hi)) H
theorem GY : Dq X MI := by
  intro pins s σ H x v vl vu lo hi sl Q I rx hs pl pu h
  obtain ⟨z, rfl, hz, q⟩ := h
  obtain ⟨t, rfl⟩ := rx
  refine ⟨"str", _, F.slot_str_getitem.lookup, typeIs_str _ _ _, ?_⟩
  have fin : ∀ (l u : Option (Int × Tok)), s.heap.IsSlice sl l u none → l.map (·.1) = lo → u.map (·.1) = hi → wpAny (model X.prog X.w) X.A (getItem (.str z t) (.ref sl)) (EP X pins σ Q) X.xe s := fun l u e e1 e2 => by
    refine wpAny_getItem_str_slice (l := l) (u := u) (st := none) e rfl ?_
    refine post_val_or_str ⟨?_, fun t' k => ?_⟩
    · exact (show (Txt.slice z (l.map (·.1)) (u.map (·.1))).length ≤ sizeLine from Nat.le_trans (Txt.slice_le z _ _) hz)
    · refine ⟨.str (Txt.slice z lo hi), H, I.tok k, ⟨t', ?_⟩, q⟩
      rw [← e1, ← e2]
      rfl
  obtain ⟨o, ho, hc, hd⟩ := hs
  cases pl with
  | none =>
    cases pu with
    | none => exact fin none none ⟨o, ho, hc, hd⟩ rfl rfl
    | int j uj => exact fin none (some (j, uj)) ⟨o, ho, hc, hd⟩ rfl rfl
  | int i ui =>
    cases pu with
    | none => exact fin (some (i, ui)) none ⟨o, ho, hc, hd⟩ rfl rfl
    | int j uj => exact fin (some (i, ui)) (some (j, uj)) ⟨o, ho, hc, hd⟩ rfl rfl
theorem xj : OpR X (binaryOp .Mult) (fun x y H Q => ∃ z n, x = .str z ∧ y = .int n ∧ MulOk z n ∧ Q (.str (Txt.mul z n)) H) := by
  intro pins s σ H x y v u Q I rx ry h
  obtain ⟨z, n, rfl, rfl, ok, q⟩ := h
  obtain ⟨t, rfl⟩ := rx
  obtain ⟨t', rfl⟩ := ry
  exact SB.mul ok fun N1 k => ⟨.str (Txt.mul z n), H, I.tok k, ⟨N1, rfl⟩, q⟩
theorem cz {xs : List V} {us : List Value} (r : Vals xs us) {j : Nat} (h : j < us.toArray.size) : RelV (xs.getD j .aq) us.toArray[j] := by
  have hl := r.length
  have hj : j < xs.length := by simpa [hl] using h
  obtain ⟨u, e, q⟩ := r.get (i := j) (x := xs[j]) (List.getElem?_eq_getElem hj)
  have e2 : us.toArray[j] = u := by
    rw [List.getElem?_eq_some_iff] at e
    obtain ⟨h', e⟩ := e
    simpa using e
  rw [e2, List.getD_eq_getElem?_getD, List.getElem?_eq_getElem hj]
  exact q
theorem va : cq X (.builtin "isinstance") (fun xs H Q => ∃ x T t b, xs = [x, .ty T] ∧ fX X.K H x t ∧ PySem.W.kitOne X.K t (.type T) = some b ∧ Q (.bl b) H) := by
  intro pins s σ H xs us Q I r h
  obtain ⟨x, T, t, b, rfl, ty, e, q⟩ := h
  obtain ⟨u, w', rfl, r1, r2⟩ := vals2 r
  cases (show w' = Value.type T from r2)
  exact yR I r1 ty e fun tk => ⟨.bl b, H, I.tok tk, rfl, q⟩
theorem j3 : ∀ {xs : List V} {us : List Value}, xs.length = us.length → (∀ (i : Nat) (v : V), xs[i]? = some v → ∃ u, us[i]? = some u ∧ RelV v u) → Vals xs us
  | [], [], _, _ => .nil
  | [], _ :: _, h, _ => by simp at h
  | _ :: _, [], h, _ => by simp at h
  | x :: xs, u :: us, h, g => by
    obtain ⟨u', e, r⟩ := g 0 x rfl
    have e' : u = u' := by simpa using e
    subst e'
    exact .cons r (j3 (by simpa using h) fun i v hv => by
      obtain ⟨w, e2, r2⟩ := g (i + 1) v (by simpa using hv)
      exact ⟨w, by simpa using e2, r2⟩)
theorem tH {e : Expr} {te : TE} {p p1 p2 pos : Pos} (hc : X.calm = true) (hg : Gl X "list") (hm : X.mg "list" = none) (nP : Gl X "range") (zf : X.mg "range" = none) (he : PE X e te) (hs : starEach [e] X.env = [(false, eval e X.env)] := by rfl) :
    PE X (.Call (.Name "list" p) [.Call (.Name "range" p1) [e] [] p2] [] pos) (fun σ H Q => te σ H fun x H1 => ∃ j : Int, x = .int j ∧ -(2 ^ 24) ≤ j ∧ j ≤ 2 ^ 24 ∧ ∀ l, H1 l = none → Q (.ref l) (upd H1 l (.lst ((List.range j.toNat).map fun i => V.int (i : Nat))))) := by
  refine ⟨?_⟩
  intro pins s σ H Q I h
  refine wpAny_Call_Name_kw (fE I hg hm (by decide +kernel : bootBuiltins "list" = some (.type "list")) ?_)
  refine PyProof.Rows.callWith_type1 ?_ rfl rfl
  show wpAny _ _ (spliced ((false, eval (.Call (.Name "range" p1) [e] [] p2) X.env) :: [])) _ _ s
  refine Calls.spliced_cons ?_
  refine Call_ (fE I nP zf boot_range (PyProof.Rows.callWith_type1 ?_ hs rfl))
  rw [hs]
  refine Calls.spliced_cons (thn (he pins s σ H _ I h) fun v s1 ⟨x, H1, I1, r1, q1⟩ => Calls.spliced_nil ?_)
  obtain ⟨j, rfl, b1, b2, q⟩ := q1
  obtain ⟨t, rfl⟩ := r1
  refine call_range_1 ?_
  refine Calls.spliced_nil ?_
  refine call_list_range (n := j.toNat) (I1.ok.hd hc) (IsRange.new ..) (small_one (by omega) (by omega) (by omega) (by omega)) (by rw [PyProof.Rows.rangeSize_nat]; simp) (by omega) fun h' tk mj c' hk hS hit => ?_
  have I2 : Inv X pins σ H1 { s1 with heap := s1.heap.push { cls := .type "range", data := .fields #[.int 0 s1.toks, .int j t, .int 1 (s1.toks + 1)] }, toks := s1.toks + 1 + 1 } := I1.kept fun b o e => Heap.get?_push_of_some _ e
  obtain ⟨hsz, zg⟩ := hit
  have rv : Vals ((List.range j.toNat).map fun i => V.int (i : Nat)) mj.toList := by
    refine j3 (by simpa using hsz.symm) fun i v e => ?_
    rw [List.getElem?_map] at e
    cases q2 : (List.range j.toNat)[i]? with
    | none => rw [q2] at e; cases e
    | some k =>
      rw [q2] at e
      have ek : k = i := by
        obtain ⟨_, e3⟩ := List.getElem?_eq_some_iff.mp q2
        simpa using e3.symm
      have hi : i < mj.size := by
        have := (List.getElem?_eq_some_iff.mp q2).1
        rw [List.length_range] at this
        omega
      obtain ⟨t2, e4⟩ := zg i mj[i] (by simp [hi])
      refine ⟨mj[i], by simp [hi], ?_⟩
      rw [e4]
      have e5 : v = V.int (k : Nat) := (Option.some.inj e).symm
      rw [e5, ek]
      exact ⟨t2, by simp⟩
  have ob : ObjOk X.prog X.w (upd H1 (s1.heap.push { cls := .type "range", data := .fields #[.int 0 s1.toks, .int j t, .int 1 (s1.toks + 1)] }).objs.size (.lst ((List.range j.toNat).map fun i => V.int (i : Nat)))) h' (s1.heap.push { cls := .type "range", data := .fields #[.int 0 s1.toks, .int j t, .int 1 (s1.toks + 1)] }).objs.size (.lst ((List.range j.toNat).map fun i => V.int (i : Nat))) := by
    refine ⟨?_, mj.toList, c', rv, by simpa using hS⟩
    rw [List.length_map, List.length_range]
    exact Nat.le_trans (show j.toNat ≤ 2 ^ 24 by omega) (by decide)
  exact ⟨.ref _, _, I2.laid (t' := tk) hk (Nat.le_refl _) ob, rfl, q _ (I2.hok.fresh (Nat.le_refl _))⟩
end
noncomputable def bq (H H' : Hp) : Prop := ∀ b o, H b = some o → H' b = some o ∨ ∃ ps c5 : Array Value, o = .cf ps ∧ H' b = some (.cf c5) ∧ TriplesOk c5.toList
theorem bq.refl (H : Hp) : bq H H := fun _ _ h => .inl h
theorem bq.trans {H H1 H2 : Hp} (a : bq H H1) (b : bq H1 H2) : bq H H2 := fun c o h => by
  rcases a c o h with z | ⟨ps, c5, e, z, t⟩
  · exact b c o z
  · rcases b c _ z with z2 | ⟨qs, GZ, e2, z2, t2⟩
    · exact .inr ⟨ps, c5, e, z2, t⟩
    · exact .inr ⟨ps, GZ, e, z2, t2⟩
theorem bq.get {H H' : Hp} (k : bq H H') {b : Addr} {o : HO} (h : H b = some o) (n : ∀ ps, o ≠ .cf ps) : H' b = some o := by
  rcases k b o h with z | ⟨ps, _, e, _⟩
  · exact z
  · exact absurd e (n ps)
theorem bq.lst {H H' : Hp} (k : bq H H') {b : Addr} {xs : List V} (h : H b = some (.lst xs)) : H' b = some (.lst xs) := k.get h (by intro ps z; cases z)
theorem bq.tup {H H' : Hp} (k : bq H H') {b : Addr} {xs : List V} (h : H b = some (.tup xs)) : H' b = some (.tup xs) := k.get h (by intro ps z; cases z)
theorem bq.tb {H H' : Hp} (k : bq H H') {P : Addr} (h : Tb P H) : Tb P H' := by
  obtain ⟨ps, e, t⟩ := h
  rcases k P _ e with z | ⟨_, c5, _, z, t'⟩
  · exact ⟨ps, z, t⟩
  · exact ⟨c5, z, t'⟩
theorem bq.new {H : Hp} {p : Addr} (h : H p = none) (o : HO) : bq H (upd H p o) := fun b u q => .inl (by rw [ae (av q h)]; exact q)
noncomputable def aM (a : Addr) (H H' : Hp) : Prop := ∀ b o, b ≠ a → H b = some o → H' b = some o ∨ ∃ ps c5 : Array Value, o = .cf ps ∧ H' b = some (.cf c5) ∧ TriplesOk c5.toList
theorem bq.but {H H' : Hp} (k : bq H H') (a : Addr) : aM a H H' := fun b o _ h => k b o h
theorem aM.refl (a : Addr) (H : Hp) : aM a H H := fun _ _ _ h => .inl h
theorem aM.trans {a : Addr} {H H1 H2 : Hp} (x : aM a H H1) (y : aM a H1 H2) : aM a H H2 := fun c o n h => by
  rcases x c o n h with z | ⟨ps, c5, e, z, t⟩
  · exact y c o n z
  · rcases y c _ n z with z2 | ⟨qs, GZ, e2, z2, t2⟩
    · exact .inr ⟨ps, c5, e, z2, t⟩
    · exact .inr ⟨ps, GZ, e, z2, t2⟩
theorem aM.upd {a : Addr} {H : Hp} {o : HO} : aM a H (upd H a o) := fun b u n q => .inl (by rw [ae n]; exact q)
theorem aM.get {a : Addr} {H H' : Hp} (k : aM a H H') {b : Addr} {o : HO} (hb : b ≠ a) (h : H b = some o) (n : ∀ ps, o ≠ .cf ps) : H' b = some o := by
  rcases k b o hb h with z | ⟨ps, _, e, _⟩
  · exact z
  · exact absurd e (n ps)
theorem aM.lst {a : Addr} {H H' : Hp} (k : aM a H H') {b : Addr} {xs : List V} (hb : b ≠ a) (h : H b = some (.lst xs)) : H' b = some (.lst xs) := k.get hb h (by intro ps z; cases z)
theorem aM.tup {a : Addr} {H H' : Hp} (k : aM a H H') {b : Addr} {xs : List V} (hb : b ≠ a) (h : H b = some (.tup xs)) : H' b = some (.tup xs) := k.get hb h (by intro ps z; cases z)
theorem zh : bootBuiltins "int" = some (.type "int") := by decide +kernel
theorem G0 : bootBuiltins "str" = some (.type "str") := by decide +kernel
theorem Er : bootBuiltins "bool" = some (.type "bool") := by decide +kernel
theorem dU : bootBuiltins "tuple" = some (.type "tuple") := by decide +kernel
theorem v7 : bootBuiltins "list" = some (.type "list") := by decide +kernel
theorem tI : bootBuiltins "min" = some (.builtin "min") := by decide +kernel
theorem G1 : bootBuiltins "max" = some (.builtin "max") := by decide +kernel
theorem G2 : bootBuiltins "abs" = some (.builtin "abs") := by decide +kernel
theorem rO : bootBuiltins "ValueError" = some (.type "ValueError") := by decide +kernel
theorem bE : bootBuiltins "isinstance" = some (.builtin "isinstance") := by decide +kernel
structure Bl (mg : Str → Option Value) : Prop where
  len_ : mg "len" = none
  range_ : mg "range" = none
  min_ : mg "min" = none
  max_ : mg "max" = none
  abs_ : mg "abs" = none
  list_ : mg "list" = none
  tuple_ : mg "tuple" = none
  int_ : mg "int" = none
  str_ : mg "str" = none
  bool_ : mg "bool" = none
  isinstance_ : mg "isinstance" = none
  all_ : mg "all" = none
  set_ : mg "set" = none
  sorted_ : mg "sorted" = none
  zip_ : mg "zip" = none
  enumerate_ : mg "enumerate" = none
  sum_ : mg "sum" = none
  reversed_ : mg "reversed" = none
  divmod_ : mg "divmod" = none
  any_ : mg "any" = none
  ValueError_ : mg "ValueError" = none
structure Df (K : PySem.W.Frag) (mg : Str → Option Value) (x : Str) (st : Stmt) (ps : List Str) (f : Addr) (fd : FuncData) : Prop where
  fn : nN K x x st f fd
  bd : Binds K fd ps []
  mg : mg x = some (.ref f)
structure qW (base : Heap) (fd : FuncData) (c P : Addr) : Prop where
  code : fd.code = .ref c
  hd : PySem.W.CodeHd base c P
section
variable {P : Program} {w : World} {K : PySem.W.Frag} {mg : Str → Option Value} {base : Heap}
theorem nN.N2 {x qual : Str} {st : Stmt} {f : Addr} {fd : FuncData} {N ps : List Str} {k : Nat} {sp : Sp} (F : nN K x qual st f fd) (S : aJ N ps (ak st)) (len : ∀ vs H Q E, sp vs H Q E → vs.length = ps.length)
    (kI : ∀ (A : Around) (outer : List Env) (s : Shared) (H : Hp) (vs : List V) (Q : VK) (E : XK), bV k (A.deeper (envOfC qual (ak st) s.heap.objs.size f fd.code)) → sp vs H Q E →
      ∃ t, d6 (fu bz P w K mg base N qual (ak st) f fd.code A outer s H E).nM (cY st) t ∧ t { nx := fun _ H' => Q .aq H', rt := Q } (start N vs) H) : FnOk P w K mg base bz (k + 1) f fd ps sp := by
  obtain ⟨oc, od, kV, doc, pm, an, cy, ct, lB, rfl, lk, fD⟩ := F.ex
  refine w6 lk fD S len fun A outer s H vs Q E hr lC => ?_
  obtain ⟨t, h, q⟩ := kI A outer s H vs Q E hr lC
  exact ⟨t, h.nM, q⟩
end
noncomputable def Qa : V → Bool | .int _ => true | _ => false
noncomputable def below (m : Int) : V → Bool | .int i => decide (0 ≤ i) && decide (i < m) | _ => false
noncomputable def kQ (H : Hp) (v : V) (row : List Int) : Prop := ∃ p, v = .ref p ∧ H p = some (.tup (row.map V.int))
noncomputable def Dy (H : Hp) (v : V) (af : List (List Int)) : Prop := ∃ a rs, v = .ref a ∧ H a = some (.tup rs) ∧ Paired (kQ H) rs af
structure cA (af : List (List Int)) (w : Nat) : Prop where
  one : 1 ≤ af.length
  nine : af.length ≤ 9
  wid : w = 2 ∨ w = 3
  row : ∀ r ∈ af, r.length = w ∧ ∀ g ∈ r, 0 ≤ g ∧ g < (af.length : Int)
theorem kQ.keep {H H' : Hp} (k : bq H H') {v : V} {row : List Int} (h : kQ H v row) : kQ H' v row := let ⟨p, e, q⟩ := h; ⟨p, e, k.tup q⟩
theorem oU {α β : Type} {F : α → β → Prop} : ∀ {xs : List α} {ys : List β} {i : Nat} {y : β}, Paired F xs ys → ys[i]? = some y → ∃ x, xs[i]? = some x ∧ F x y
  | _, _, _, _, .nil, e => by simp at e
  | _, _, 0, _, .cons f _, e => by simp at e; subst e; exact ⟨_, rfl, f⟩
  | _, _, i + 1, y, .cons _ t, e => by
    obtain ⟨x, h1, h2⟩ := oU (i := i) (y := y) t (by simpa using e)
    exact ⟨x, by simpa using h1, h2⟩
noncomputable def oV (tb : List Addr) (H : Hp) : Prop := ∀ p ∈ tb, Tb p H
theorem oV.keep {tb : List Addr} {H H' : Hp} (k : bq H H') (h : oV tb H) : oV tb H' := fun p hp => k.tb (h p hp)
noncomputable def bH (H : Hp) (b : Addr) : Prop := ∃ c m : Int, H b = some (.lst [.int c, .int m]) ∧ 0 ≤ c ∧ 0 ≤ m
noncomputable def Runs (J : It) (ys : List V) (H : Hp) : Prop := ∀ i, (i < ys.length → J.go i H ∧ ∀ x H', J.yld i H x H' → H' = H ∧ ys[i]? = some x) ∧ (ys.length ≤ i → J.stop i H)
noncomputable def jl (z : Str) : List V := z.cps.toList.map fun c => .str ⟨#[c]⟩
theorem BL {K : PySem.W.Frag} {a : Addr} {ys : List V} {H : Hp} (h : cB K H a ys) : Runs (F9 K a) ys H := fun i =>
  ⟨fun hi => ⟨⟨ys, ys[i], h, List.getElem?_eq_getElem hi⟩, fun x H' y => ⟨y.1, y.2 ys h⟩⟩, fun hi => ⟨ys, h, hi⟩⟩
theorem zj {K : PySem.W.Frag} {a : Addr} {ys : List V} {H : Hp} (h : a8 K H a ys) : Runs (F8 K a) ys H := fun i =>
  ⟨fun hi => ⟨⟨ys, ys[i], h, List.getElem?_eq_getElem hi⟩, fun x H' y => ⟨y.1, y.2 ys h⟩⟩, fun hi => ⟨ys, h, hi⟩⟩
theorem cH {lo : Int} {n : Nat} {H : Hp} : Runs (Dk lo n) ((List.range n).map fun i => V.int (lo + (i : Nat))) H := fun i => by
  have el : ((List.range n).map fun i => V.int (lo + (i : Nat))).length = n := by simp
  rw [el]
  refine ⟨fun hi => ⟨hi, fun x H' y => ?_⟩, fun hi => hi⟩
  obtain ⟨e1, e2⟩ := y
  refine ⟨e1, ?_⟩
  rw [e2, List.getElem?_map, List.getElem?_range hi]
  rfl
theorem oW (z : Str) : (jl z).length = z.length := by
  unfold jl
  rw [List.length_map]
  rfl
theorem BM {z : Str} {H : Hp} : Runs (zb z) (jl z) H := fun i =>
  ⟨fun hi => ⟨by rw [oW] at hi; exact hi, fun x H' y => by
    obtain ⟨e, c, hc, rfl⟩ := y
    refine ⟨e, ?_⟩
    unfold jl
    rw [List.getElem?_map, Array.getElem?_toList, hc]
    rfl⟩, fun hi => by rw [oW] at hi; exact hi⟩
theorem qe {τ : St} {x y : Option V} : (τ.set 0 x).set 0 y = τ.set 0 y := by
  cases τ <;> rfl
theorem Nv {J : It} {ys : List V} {te : TE} {Z : Bool → Hp → Prop} {H0 : Hp} {jm : St} (p : V → Bool) (hJ : ∀ H, bq H0 H → Runs J ys H)
    (st : ∀ (i : Nat) (y : V), ys[i]? = some y → ∀ H, bq H0 H → ∀ R : VK, (∀ H', bq H0 H' → R (.bl (p y)) H') → te (jm.set 0 (some y)) H R) (q : ∀ H, bq H0 H → Z (ys.all p) H) :
    ∃ W : Nat → Nat → St → Hp → Prop, (∃ m, W 0 m jm H0) ∧ BI J (iJ 0) nz te false Z W := by
  refine ⟨fun i m τ H => m = ys.length - i ∧ i ≤ ys.length ∧ (∀ v, τ.set 0 v = jm.set 0 v) ∧ bq H0 H ∧ (ys.take i).all p = true, ⟨ys.length, by simp, Nat.zero_le _, fun _ => rfl, .refl _, rfl⟩, ?_⟩
  rintro i m τ H ⟨rfl, hi, G3, k, ht⟩
  by_cases bo : i < ys.length
  · obtain ⟨g1, g2⟩ := (hJ H k i).1 bo
    refine .inr ⟨g1, fun x H' y => ?_⟩
    obtain ⟨e, hx⟩ := g2 x H' y
    subst e
    dsimp only [iJ, nz]
    rw [if_pos rfl, G3]
    refine st i x hx _ k _ fun H4 k4 => ?_
    have et : (ys.take (i + 1)).all p = p x := by
      rw [List.take_add_one, hx, List.all_append, ht]
      simp
    refine ⟨p x, rfl, ?_⟩
    cases hp : p x with
    | false =>
      rw [if_pos rfl]
      have : ys.all p = false := by
        rw [← List.take_append_drop (i + 1) ys, List.all_append, et, hp]
        rfl
      rw [← this]
      exact q _ k4
    | true =>
      rw [if_neg (by decide)]
      exact ⟨ys.length - (i + 1), by omega, rfl, bo, fun v => qe, k4, et.trans hp⟩
  · have e : i = ys.length := by omega
    subst e
    refine .inl ⟨(hJ H k _).2 (Nat.le_refl _), ?_⟩
    rw [List.take_length] at ht
    have z := q H k
    rw [ht] at z
    exact z
theorem tturn_of {J : It} {xs : List V} {tt : TT} {te : TE} {Q : VK} {H0 : Hp} {jm : St} {D : Addr} (Pv : Nat → List V → Hp → Prop) (hJ : ∀ i acc H, i ≤ xs.length → Pv i acc H → Runs J xs H) (h0 : Pv 0 [] H0)
    (hs : ∀ (i : Nat) (x : V) acc H, xs[i]? = some x → Pv i acc H → ∀ (R1 : Hp → Prop) (R2 : VK), (∀ y H4, H4 D = some (.lst acc) → acc.length < sizeLine → Pv (i + 1) (acc ++ [y]) (upd H4 D (.lst (acc ++ [y]))) → R2 y H4) → (∀ H3, Pv (i + 1) acc H3 → R1 H3) →
      tt (jm.set 0 (some x)) H fun b H3 => if b = true then te (jm.set 0 (some x)) H3 R2 else R1 H3)
    (hd : ∀ acc H, Pv xs.length acc H → Q (.ref D) H) :
    ∃ W : Nat → Nat → St → Hp → Prop, (∃ m, W 0 m jm H0) ∧ sv J (iJ 0) tt te D Q W := by
  refine ⟨fun i m τ H => m = xs.length - i ∧ i ≤ xs.length ∧ (∀ v, τ.set 0 v = jm.set 0 v) ∧ ∃ acc, Pv i acc H, ⟨xs.length, by simp, Nat.zero_le _, fun _ => rfl, [], h0⟩, ?_⟩
  rintro i m τ H ⟨rfl, hi, G3, acc, p⟩
  by_cases bo : i < xs.length
  · obtain ⟨g1, g2⟩ := (hJ i acc H hi p i).1 bo
    refine .inr ⟨g1, fun x H' y => ?_⟩
    obtain ⟨e, hx⟩ := g2 x H' y
    subst e
    dsimp only [iJ]
    rw [G3]
    exact hs i x acc _ hx p _ _ (fun v H4 z1 z2 z3 => ⟨acc, xs.length - (i + 1), z1, z2, by omega, rfl, bo, fun v => qe, _, z3⟩) fun H3 z => ⟨xs.length - (i + 1), by omega, rfl, bo, fun v => qe, acc, z⟩
  · have e : i = xs.length := by omega
    subst e
    exact .inl ⟨(hJ _ acc H hi p _).2 (Nat.le_refl _), hd acc H p⟩
theorem zk {J : It} {xs : List V} {te : TE} {Q : VK} {H0 : Hp} {jm : St} {D : Addr} (Pv : Nat → List V → Hp → Prop) (hJ : ∀ i acc H, i ≤ xs.length → Pv i acc H → Runs J xs H) (h0 : Pv 0 [] H0)
    (hs : ∀ (i : Nat) (x : V) acc H, xs[i]? = some x → Pv i acc H → ∀ R2 : VK, (∀ y H4, H4 D = some (.lst acc) → acc.length < sizeLine → Pv (i + 1) (acc ++ [y]) (upd H4 D (.lst (acc ++ [y]))) → R2 y H4) → te (jm.set 0 (some x)) H R2)
    (hd : ∀ acc H, Pv xs.length acc H → Q (.ref D) H) :
    ∃ W : Nat → Nat → St → Hp → Prop, (∃ m, W 0 m jm H0) ∧ sv J (iJ 0) nz te D Q W :=
  tturn_of (tt := nz) Pv hJ h0 (fun i x acc H hx p R1 R2 h2 h1 => by dsimp only [nz]; rw [if_pos rfl]; exact hs i x acc H hx p R2 h2) hd
theorem kc {J : It} {xs : List V} {g : TG} {tb : TS} {D : Ends} {σ : St} {H : Hp} (Pv : Nat → St → Hp → Prop) (h0 : Pv 0 σ H) (hJ : ∀ i σ H, i ≤ xs.length → Pv i σ H → Runs J xs H)
    (hs : ∀ i x σ H, xs[i]? = some x → Pv i σ H → g x σ H fun fF H2 => tb { D with nx := Pv (i + 1), ct := Pv (i + 1), bk := D.nx } fF H2) (hd : ∀ σ H, Pv xs.length σ H → D.nx σ H) :
    ∃ W : Nat → Nat → St → Hp → Prop, (∃ m, W 0 m σ H) ∧ ∀ i m σ H, W i m σ H →
      (J.stop i H ∧ D.nx σ H) ∨ (J.go i H ∧ ∃ N : St → Hp → Prop, (∀ aC H', N aC H' → ∃ m', m' < m ∧ W (i + 1) m' aC H') ∧ ∀ x H', J.yld i H x H' → g x σ H' fun fF H2 => tb { D with nx := N, ct := N, bk := D.nx } fF H2) := by
  refine ⟨fun i m σ H => m = xs.length - i ∧ i ≤ xs.length ∧ Pv i σ H, ⟨xs.length, by simp, Nat.zero_le _, h0⟩, ?_⟩
  rintro i m σ H ⟨rfl, hi, p⟩
  by_cases bo : i < xs.length
  · obtain ⟨g1, g2⟩ := (hJ i σ H hi p i).1 bo
    refine .inr ⟨g1, Pv (i + 1), fun aC H' p' => ⟨xs.length - (i + 1), by omega, rfl, bo, p'⟩, fun x H' y => ?_⟩
    obtain ⟨e, hx⟩ := g2 x H' y
    subst e
    exact hs i x σ _ hx p
  · have e : i = xs.length := by omega
    subst e
    exact .inl ⟨(hJ _ σ H hi p _).2 (Nat.le_refl _), hd σ H p⟩
noncomputable def Ho (X : Cx) (st : List Stmt) (Pre : St → Hp → Prop) (D : Ends) : Prop := ∃ u, d6 X st u ∧ ∀ σ H, Pre σ H → u D σ H
noncomputable def Hs (X : Cx) (st : Stmt) (Pre Dz : St → Hp → Prop) (D : Ends) : Prop := ∃ t, PS X st t ∧ ∀ (N : St → Hp → Prop) σ H, Pre σ H → (∀ aC H', Dz aC H' → N aC H') → t { D with nx := N } σ H
theorem Ho.cons {X : Cx} {st : Stmt} {rest : List Stmt} {Pre : St → Hp → Prop} {D : Ends} (Dz : St → Hp → Prop) (h1 : Hs X st Pre Dz D) (h2 : Ho X rest Dz D) : Ho X (st :: rest) Pre D := by
  obtain ⟨t, ht, q⟩ := h1
  obtain ⟨u, hu, r⟩ := h2
  exact ⟨F5 t u, cE ht hu, fun σ H p => q (u D) σ H p r⟩
theorem Ho.last {X : Cx} {st : Stmt} {Pre : St → Hp → Prop} {D : Ends} (h : ∃ t, PS X st t ∧ ∀ σ H, Pre σ H → t D σ H) : Ho X [st] Pre D := by
  obtain ⟨t, ht, q⟩ := h
  exact ⟨t, cg ht, q⟩
theorem Ho.run {X : Cx} {st : List Stmt} {Pre : St → Hp → Prop} {D : Ends} {σ : St} {H : Hp} (p : Pre σ H) (h : Ho X st Pre D) : ∃ t, d6 X st t ∧ t D σ H := by
  obtain ⟨u, hu, r⟩ := h
  exact ⟨u, hu, r σ H p⟩
theorem bH.keep {H H' : Hp} (k : bq H H') {b : Addr} (h : bH H b) : bH H' b := let ⟨c, m, e, r⟩ := h; ⟨c, m, k.lst e, r⟩
theorem jn {ns : List Int} {i : Int} (h0 : 0 ≤ i) (h1 : i < (ns.length : Nat)) : ∃ v : Int, dO (ns.map V.int) i = some (.int v) ∧ ns[i.toNat]? = some v := by
  have hj : i.toNat < ns.length := by omega
  have e : i = ((i.toNat : Nat) : Int) := by omega
  refine ⟨ns[i.toNat], ?_, List.getElem?_eq_getElem hj⟩
  have := cN (xs := ns.map V.int) (j := i.toNat) (v := V.int ns[i.toNat]) (by rw [List.getElem?_map, List.getElem?_eq_getElem hj]; rfl)
  rw [← e] at this
  exact this
section
variable {X : Cx} {K : PySem.W.Frag}
theorem bM (h : X.K = K) : lD X (BC K) := h ▸ vY
theorem Es (h : X.K = K) : lD X (KA K) := h ▸ Gw
theorem fO (h : X.K = K) : cq X (.builtin "len") (fun xs H Q => ∃ p ys, xs = [.ref p] ∧ (a8 K H p ys ∨ cB K H p ys) ∧ Q (.int ys.length) H) := h ▸ sW
theorem zl (h : X.K = K) : cq X (.builtin "len") (fun xs H Q => ∃ x n, xs = [x] ∧ Gi K x H n ∧ Q (.int n) H) := h ▸ Bw
theorem rP (h : X.K = K) : cq X (.type "list") (fun xs H Q => ∃ p ys, xs = [.ref p] ∧ (a8 K H p ys ∨ cB K H p ys) ∧ ∀ l, H l = none → Q (.ref l) (upd H l (.lst ys))) := h ▸ sX
theorem eX (h : X.K = K) : cq X (.type "tuple") (fun xs H Q => ∃ p ys, xs = [.ref p] ∧ ((a8 K H p ys ∧ ∀ l, H l = none → Q (.ref l) (upd H l (.tup ys))) ∨ (cB K H p ys ∧ Q (.ref p) H))) := h ▸ rN
theorem tJ (h : X.K = K) : cq X (.builtin "isinstance") (fun xs H Q => ∃ x T t b, xs = [x, .ty T] ∧ fX K H x t ∧ PySem.W.kitOne K t (.type T) = some b ∧ Q (.bl b) H) := h ▸ va
theorem BO {tg l : Expr} {tl : TE} (h : X.K = K) (hl : PE X l tl) : PI X tg l (Dl K tl) := h ▸ Eg hl
theorem Et {tg l : Expr} {tl : TE} (h : X.K = K) (hl : PE X l tl) : PI X tg l (Ga K tl) := h ▸ Gb hl
variable {o e : Expr} {es : List Expr} {to : TE} {t : TA} {name : Str} {apos bG : Pos} {T id : String} {r : V → List V → Hp → VK → Prop}
theorem oX (h : X.K = K) (pa : PlainAttrs T) (slot : Slot T name id) (sY : typeOf (.builtin id) = pure (.type "method_descriptor")) (hm : Dr X id r) (ho : PE X o to) (ha : PA X (e :: es) t) (oQ : attributeBase o name X.env (eval o X.env) = eval o X.env := by rfl)
    (sZ : ((backTo bG (starEach (e :: es) X.env)).all (fun x => !x.1) && (backToKw bG (keywordEach [] X.env)).all (fun x => x.1.isSome)
      && decide ((e :: es).length + ([] : List Keyword).length + (if ([] : List Keyword).isEmpty then 0 else 1) < 30)) = true := by rfl)
    (hline : (apos.endLine == bG.line) = true := by rfl) (hs : starEach (e :: es) X.env = (false, eval e X.env) :: starEach es X.env := by rfl) (lZ : (backTo bG (starEach es X.env)).any (·.1) = false := by rfl) :
    PE X (.Call (.Attribute o name apos) (e :: es) [] bG) (KC K T r to t) := h ▸ Jx pa slot sY hm ho ha oQ sZ hline hs lZ
end
noncomputable abbrev bI (K : PySem.W.Frag) (x : Str) (st : Stmt) : Prop :=
  ∃ (f : Addr) (oc : Value) (od : Option Addr) (sl : Array (Option Value)) (kV dc pm : Value) (an : Option Addr) (cd ct : Value),
    PySem.W.nsIn K mainGlobals x = some (some (.ref f)) ∧ K.lookup f = some ⟨oc, od, .func (PySem.W.fnOf x x (gk st) (cY st) (ak st) .none kV dc pm an cd ct), sl⟩ ∧ PySem.W.codeIn K cd x = true ∧ PySem.W.keepIn K (.ref f) = true
theorem aQ {K : PySem.W.Frag} {x : Str} {st : Stmt} {f : Addr} {oc : Value} {od : Option Addr} {sl : Array (Option Value)} {kV dc pm : Value} {an : Option Addr} {cd ct : Value} (a : PySem.W.nsIn K mainGlobals x = some (some (.ref f)))
    (l : K.lookup f = some ⟨oc, od, .func (PySem.W.fnOf x x (gk st) (cY st) (ak st) .none kV dc pm an cd ct), sl⟩) (c : PySem.W.codeIn K cd x = true) (k : PySem.W.keepIn K (.ref f) = true) : bI K x st := ⟨f, oc, od, sl, kV, dc, pm, an, cd, ct, a, l, c, k⟩
section
variable {K : PySem.W.Frag} {mg : Str → Option Value} {h base : Heap}
theorem bI.df {x : Str} {st : Stmt} (d : bI K x st) (X : K.In h) (G : h.Ns mainGlobals mg) (ps : List Str)
    (hb : ∀ (kV doc pm : Value) (an : Option Addr) (cy ct : Value) (us : List Value), us.length = ps.length → bindArgs (PySem.W.fnOf x x (gk st) (cY st) (ak st) .none kV doc pm an cy ct) ⟨us, []⟩ = pure (ps.zip us)) :
    ∃ f fd, Df K mg x st ps f fd := by
  obtain ⟨f, oc, od, sl, kV, dc, pm, an, cd, ct, a, l, c, k⟩ := d
  have F := GI (st := st) l c k
  exact ⟨f, _, F, F.binds hb, PySem.W.mg_of X G a⟩
theorem ke {x : Str} {st : Stmt} {ps : List Str} {f p : Addr} {fd : FuncData} (D : Df K mg x st ps f fd) (X : K.In h)
    (t : ∃ f o fd c, mg x = some (.ref f) ∧ h.get? f = some o ∧ o.data = .func fd ∧ fd.code = .ref c ∧ PySem.W.CodeHd h c p) (tr : ∀ c p, PySem.W.CodeHd h c p → PySem.W.CodeHd base c p) : ∃ c, qW base fd c p := by
  obtain ⟨f', o, N3, c, e1, e2, e3, e4, e5⟩ := t
  obtain ⟨oc, od, kV, doc, pm, an, cy, ct, lB, rfl, lk, fD⟩ := D.fn.ex
  have e := D.mg.symm.trans e1
  cases e
  have q := (X _ _ lk).symm.trans e2
  cases q
  cases e3
  exact ⟨c, e4, tr _ _ e5⟩
theorem Df.bind1 {x y : Str} {st : Stmt} {f : Addr} {fd : FuncData} (D : Df K mg x st [y] f fd) (s : Shared) (v : Value)
    (hb : ∀ (kV doc pm : Value) (an : Option Addr) (cy ct : Value) (u : Value), bindArgs (PySem.W.fnOf x x (gk st) (cY st) (ak st) .none kV doc pm an cy ct) ⟨[u], []⟩ = pure [(y, u)]) : BindsTo s fd ⟨[v], []⟩ [(y, v)] := by
  obtain ⟨oc, od, kV, doc, pm, an, cy, ct, lB, rfl, lk, fD⟩ := D.fn.ex
  exact .of_eq (hb kV doc pm an cy ct v)
theorem eu {α β : Type} {F : α → β → Prop} {a : α} {r : List α} {t : List β} (h : Paired F (a :: r) t) : ∃ b t', t = b :: t' ∧ F a b ∧ Paired F r t' := by
  cases h with
  | cons x y => exact ⟨_, _, rfl, x, y⟩
theorem recs_of {q : Program} {lF : List Str} (h : (lF.all fun y => (recsOf q).any fun r => decide (r.name = y)) = true) : ∀ y ∈ lF, ∃ r ∈ recsOf q, r.name = y := fun y hy => by
  have := List.all_eq_true.mp h y hy
  obtain ⟨r, hr, e⟩ := List.any_eq_true.mp this
  exact ⟨r, hr, of_decide_eq_true e⟩
end
noncomputable abbrev nA := V → Hp → (Hp → Prop) → Prop
section
variable {Y : Cx} {A2 : Around} {tg elt iter : Expr} {ifs : List Expr} {scope : Scope} {pos : Pos} {it : Addr} {fp : List Addr} {bX : Nat → Heap → Prop} {J : It} {g : TG} {tt : TT} {te : TE} {pp : List (Addr × Obj)} {R : GenEnd} {Yp : Protocol}
noncomputable def tGenV (J : It) (g : TG) (tt : TT) (te : TE) (C : nA) (Z : Hp → Prop) (W : Nat → Nat → St → Hp → Prop) : Prop := ∀ i m τ H, W i m τ H →
  (J.stop i H ∧ Z H) ∨ (J.go i H ∧ ∀ x H', J.yld i H x H' → g x τ H' fun aI H2 => tt aI H2 fun b H3 => if b = true then te aI H3 fun y H4 => C y H4 fun H5 => ∃ m', m' < m ∧ W (i + 1) m' aI H5 else ∃ m', m' < m ∧ W (i + 1) m' aI H3)
theorem zm (hA : Y.A = A2.over (.compLoop (.GeneratorExp elt [⟨tg, iter, ifs, 0⟩] scope pos) 0 (.ref it) .none Y.env) []) (tq : Y.xe = fun _ _ => False) (hc : Y.calm = true) (jN : Y.env.scope.isCoroutine = false)
    (T : Turn Y.prog Y.w Y.K tg J fp it bX) (hg : PG Y tg g) (ht : hV Y ifs tt) (he : PE Y elt te) (stat : ∀ {H' : Hp}, (∀ b ∈ fp, H' b = none) → ∀ b ∈ fp, dR Y pp H' b)
    {W : Nat → Nat → St → Hp → Prop} {C : nA} {Z : Hp → Prop} (turn : tGenV J g tt te C Z W)
    (hR : ∀ n s₀ au τ H, Inv Y pp τ H au → Z H → R n s₀ (.ok .next) au)
    (hY : ∀ n s₀ s jj y v τ H pl (N : Hp → Prop), RelV y v → Inv Y (pp ++ pl) τ H s → C y H N → (∀ H5 bw, Inv Y (pp ++ pl) τ H5 bw → N H5 → jj (.send .none) bw) → Yp n s₀ v s jj) :
    ∀ (m n i : Nat) (τ : St) (H : Hp) (s s₀ : Shared), m < n → W i m τ H → Inv Y pp τ H s → bX i s.heap → (∀ b ∈ fp, H b = none) →
      Seg (model Y.prog Y.w) A2 R Yp n s₀ (.compLoop (.GeneratorExp elt [⟨tg, iter, ifs, 0⟩] scope pos) 0 (.ref it) .none Y.env)
        ((model Y.prog Y.w).den (.compLoop (.GeneratorExp elt [⟨tg, iter, ifs, 0⟩] scope pos) 0 (.ref it) .none Y.env)) [] s := by
  intro m
  induction m using Nat.strongRecOn with
  | ind m ih =>
    intro n i τ H s s₀ NT w I st fr
    show Seg _ A2 _ _ _ s₀ _ ((compTurn (.GeneratorExp elt [⟨tg, iter, ifs, 0⟩] scope pos) 0 (.ref it) .none Y.env).onRaise (leaving Y.env)) [] s
    rw [compTurn_gen, Sem.onRaise_eq_wrap]
    rcases turn i m τ H w with ⟨stop, qn⟩ | ⟨go, step⟩
    · refine seg_bind_wrap (wpAny_standAt ?_)
      have d := T.done Y rfl rfl rfl hc i pp s τ H (fun _ _ => False) I (stat fr) st stop
      rw [hA] at d
      refine seg_bind_wrap (wpAny_mono d (fun r s1 ⟨hr, I1⟩ => ?_) fun _ _ z => z.elim)
      subst hr
      exact seg_end (.ok .next) (hR _ _ _ _ _ I1 qn)
    · refine seg_bind_wrap (wpAny_standAt ?_)
      have d := T.item Y rfl rfl rfl hc i pp s τ H (fun _ _ => False) I (stat fr) st go
      rw [hA] at d
      refine seg_bind_wrap (wpAny_mono d (fun r s4 ⟨u, hr, h4⟩ => ?_) fun _ _ z => z.elim)
      subst hr
      refine seg_bind_wrap (wpAny_mono h4 (fun _ s5 ⟨x, H5, I5, r5, y5, gv, oJ⟩ => ?_) fun _ _ z => z.elim)
      have oK := I5.pinned (stat oJ) (T.obj _ _ gv)
      have back : ∀ {jh : St} {H7 : Hp} {s7 : Shared}, Inv Y (pp ++ gu fp s5.heap) jh H7 s7 → bX (i + 1) s7.heap ∧ ∀ b ∈ fp, H7 b = none := fun {jh H7 s7} I7 => by
        refine ⟨T.keep _ _ _ gv fun b hb o e => (I7.pin (b, o) (List.mem_append_right _ (List.mem_append_right _ (bZ hb e)))).1, fun b hb => ?_⟩
        obtain ⟨o, e, d⟩ := T.obj _ _ gv b hb
        exact (I7.pin (b, o) (List.mem_append_right _ (List.mem_append_right _ (bZ hb e)))).2.1
      have d2 := hg _ s5 τ H5 x u _ oK r5 (step x H5 y5)
      rw [hA, tq] at d2
      refine seg_bind_wrap (wpAny_mono d2 (fun _ s6 ⟨gJ, H6, I6, q6⟩ => ?_) fun _ _ z => z.elim)
      have d3 := ht _ s6 gJ H6 _ I6 q6
      rw [hA, tq] at d3
      refine seg_bind_wrap (wpAny_mono d3 (fun ok s7 ⟨H7, I7, q7⟩ => ?_) fun _ _ z => z.elim)
      have hy : ∀ v, yieldOut Y.env v = yieldValue v := fun v => by simp only [yieldOut, jN, Bool.false_eq_true, if_false]
      cases ok with
      | false =>
        simp only [Bool.false_eq_true, if_false] at q7 ⊢
        obtain ⟨m', mh, w7⟩ := q7
        exact seg_again rfl (ih m' mh n (i + 1) gJ H7 s7 s₀ (by omega) w7 I7.b6 (back I7).1 (back I7).2)
      | true =>
        simp only [if_true] at q7 ⊢
        simp only [hy]
        rw [Sem.bind_eq_wrap', Sem.bind_eq_wrap', Sem.wrap_wrap, Sem.wrap_wrap]
        have d4 := he _ s7 gJ H7 _ I7 q7
        rw [hA, tq] at d4
        refine seg_wrap (wpAny_mono d4 (fun yv s8 ⟨y, H8, I8, r8, q8⟩ => ?_) fun _ _ z => z.elim)
        obtain ⟨n, rfl⟩ : ∃ n', n = n' + 1 := ⟨n - 1, by omega⟩
        refine seg_at (seg_yield rfl rfl rfl (hY _ _ _ _ y yv gJ H8 _ _ r8 I8 q8 fun H9 bw I9 ⟨m', mh, w8⟩ => ?_))
        exact seg_again rfl (ih m' mh n (i + 1) gJ H9 bw bw (by omega) w8 I9.b6 (back I9).1 (back I9).2)
end
section
variable {X : Cx} {tg elt iter : Expr} {ifs : List Expr} {scope : Scope} {pos : Pos} {N' : List Str} {tn : Nat} {idx : List Nat} {wi : TI} {g : TG} {tt : TT} {te : TE} {c P : Addr} {k : Nat}
noncomputable def DA (X Y : Cx) (pp : List (Addr × Obj)) (gn : Nat) (C : nA) (Z : Hp → Prop) (n : Nat) (H : Hp) (s : Shared) : Prop :=
  ∃ τ pl gs, Inv Y (pp ++ pl) τ H s ∧ s.gens[gn]? = some gs ∧ ∀ bw, Inv Y (pp ++ pl) τ H bw → gs.Goes (model X.prog X.w) X.A.in4.in1 (fun _ _ r au => r = .ok .next ∧ ∃ τ H, Inv Y pp τ H au ∧ Z H)
    (fun _ _ v s jj => ∃ y τ H pl N, RelV y v ∧ Inv Y (pp ++ pl) τ H s ∧ C y H N ∧ ∀ H5 bw, Inv Y (pp ++ pl) τ H5 bw → N H5 → jj (.send .none) bw) n (.send .none) bw
theorem JA {pins : List (Addr × Obj)} {σ : St} {J : It} {H3 : Hp} {a : Addr} {s5 : Shared} {Y : Cx} {it : Addr} {fp : List Addr} {bX : Nat → Heap → Prop} {gn : Nat} {pp : List (Addr × Obj)} {C : nA} {Z : Hp → Prop} {n : Nat} {H : Hp} {s : Shared} {E : Value → Shared → Prop}
    (hr : bV (k + 1) X.A) (G : tu X pins σ N' scope tn idx k elt tg iter ifs pos J H3 a s5 Y it fp bX gn pp) (h : DA X Y pp gn C Z n H s) :
    wpAny (model X.prog X.w) X.A.in4 (pyNext (.ref a)) (fun r s1 => match r with
      | none => ∃ H1, Inv X pins σ H1 s1 ∧ Z H1
      | some v => ∃ y τ H1 pl N, RelV y v ∧ Inv Y (pp ++ pl) τ H1 s1 ∧ C y H1 N ∧ ∀ H2 s2, Inv Y (pp ++ pl) τ H2 s2 → s2.gens = s1.gens → N H2 → ∃ m, m < n ∧ DA X Y pp gn C Z m H2 s2) E s := by
  obtain ⟨τ, pl, gs, I6, GU, oT⟩ := h
  refine wpAny_pyNext_genexpQ (A := X.A.in4) (P := fun _ _ au => ∃ τ H, Inv Y pp τ H au ∧ Z H) hr.hd I6.nolimit hr.depth (G.isg I6.b6) GU (oT _ (I6.j2 ⟨rfl, rfl, gm I6.bare rfl⟩)) (fun v s1 y8 hb hv => ?_) (fun s1 hp h' hk => ?_)
  · obtain ⟨y, v3, H1, KQ, N, r1, I1, c1, z2⟩ := hv
    have tF : kO s1 (s1.setGen gn y8) := ⟨rfl, rfl, gm I1.bare hb⟩
    refine ⟨y, v3, H1, KQ, N, r1, I1.j2 tF, c1, fun H2 s2 I2 e2 n2 => ?_⟩
    have z3 := z2 H2 s2 I2 n2
    cases n with
    | zero => exact z3.elim
    | succ m => exact ⟨m, Nat.lt_succ_self _, v3, KQ, y8, I2, by rw [e2]; exact qU (G.gsz I1.b6), fun bw I3 => z2 H2 bw I3 n2⟩
  · obtain ⟨v3, H1, I1, z1⟩ := hp
    have I2 := I1.kept (t' := s1.toks) hk
    have GV : kO { s1 with heap := h' } { s1.setGen gn .finished with heap := h' } := ⟨rfl, rfl, gm (s := s1) I1.bare rfl⟩
    exact ⟨H1, G.out (I2.j2 GV), z1⟩
theorem zo {pins : List (Addr × Obj)} {σ : St} {J : It} {H3 : Hp} {a : Addr} {s5 : Shared} {Y : Cx} {it : Addr} {fp : List Addr} {bX : Nat → Heap → Prop} {gn : Nat} {pp : List (Addr × Obj)} {C : nA} {Z : Hp → Prop} {W : Nat → Nat → St → Hp → Prop} {m0 : Nat} {H4 : Hp} {s6 : Shared}
    (G : tu X pins σ N' scope tn idx k elt tg iter ifs pos J H3 a s5 Y it fp bX gn pp) (hg : dS X N' scope k fun Y => PG Y tg g) (ht : dS X N' scope k fun Y => hV Y ifs tt) (he : dS X N' scope k fun Y => PE Y elt te)
    (I6 : Inv Y (pp ++ gu fp s5.heap) (bL tn idx σ) H4 s6) (N4 : s6.gens = s5.gens) (turn : tGenV J g tt te C Z W) (w0 : W 0 m0 (bL tn idx σ) H4) : DA X Y pp gn C Z (m0 + 1) H4 s6 := by
  have xi := zm (A2 := X.A.in4.in1) (pp := pp) (R := fun _ _ r au => r = .ok .next ∧ ∃ τ H, Inv Y pp τ H au ∧ Z H)
    (Yp := fun _ _ v s jj => ∃ y τ H pl N, RelV y v ∧ Inv Y (pp ++ pl) τ H s ∧ C y H N ∧ ∀ H5 bw, Inv Y (pp ++ pl) τ H5 bw → N H5 → jj (.send .none) bw) G.A G.xe G.calm G.co G.T (G.blk _ hg) (G.blk _ ht) (G.blk _ he) G.stat turn
    (fun n s₀ au τ H J z => ⟨rfl, τ, H, J, z⟩) (fun n s₀ s jj y v τ H pl N r J z1 z2 => ⟨y, τ, H, pl, N, r, J, z1, z2⟩)
  have hP := G.prog
  have hW := G.w
  have jO := G.st
  rw [← N4] at jO
  refine ⟨_, _, _, I6, jO, fun bw I7 => ⟨rfl, ?_⟩⟩
  have y9 : bX 0 bw.heap := G.T.keep _ _ _ G.tn0 fun b hb o e => (I7.pin (b, o) (List.mem_append_right _ (List.mem_append_right _ (bZ hb e)))).1
  have N5 : ∀ b ∈ fp, H4 b = none := fun b hb => by
    obtain ⟨o, e, d⟩ := G.T.obj _ _ G.tn0 b hb
    exact (I7.pin (b, o) (List.mem_append_right _ (List.mem_append_right _ (bZ hb e)))).2.1
  have q := qV (iter := iter) (ifs := ifs) (scope := scope) (pos := pos) (elt := elt) G.T y9 (xi m0 (m0 + 1) 0 _ _ bw bw (Nat.lt_succ_self _) w0 I7.b6 y9 N5)
  rw [hP, hW] at q
  exact q
noncomputable def takeIn (S : Addr) : nA := fun y H N => ∃ ys, H S = some (.lst ys) ∧ ys.length < sizeLine ∧ N (upd H S (.lst (ys ++ [y])))
theorem vb {pins : List (Addr × Obj)} {σ : St} {J : It} {H3 : Hp} {a : Addr} {s5 : Shared} {Y : Cx} {it : Addr} {fp : List Addr} {bX : Nat → Heap → Prop} {gn : Nat} {pp : List (Addr × Obj)} {Z : Hp → Prop} {A : Around} {R' : Result → Shared → Prop} {S : Addr} {res : Value}
    (hr : bV (k + 1) X.A) (G : tu X pins σ N' scope tn idx k elt tg iter ifs pos J H3 a s5 Y it fp bX gn pp)
    (zp : ∀ {Q : Option Value → Shared → Prop} {E : Value → Shared → Prop} {s : Shared}, wpAny (model X.prog X.w) X.A.in4 (pyNext (.ref a)) Q E s → wpAny (model X.prog X.w) A.in1 (pyNext (.ref a)) Q E s)
    (hR : ∀ s H, Inv X pins σ H s → Z H → R' (.ok (.ret res)) s) :
    ∀ (n : Nat) (H : Hp) (s : Shared), DA X Y pp gn (takeIn S) Z n H s → codeAny (model X.prog X.w) A (.builtin "list.extend.loop" ⟨[.ref S, .ref a, res], []⟩) R' s := by
  intro n
  induction n using Nat.strongRecOn with
  | ind n ih =>
    intro H s h
    refine codeAny_builtin F.entry_extend_loop ?_
    rw [Around.under_plainId F.plain_extend_loop _]
    show wpAny _ A.in1 (pyNext (.ref a) >>= _) _ _ s
    refine wpAny_bind (zp (wpAny_mono (JA (E := fun _ _ => False) hr G h) (fun r s1 q => ?_) fun _ _ z => z.elim))
    cases r with
    | none =>
      obtain ⟨H1, I1, z1⟩ := q
      exact wpAny_pure (hR s1 H1 I1 z1)
    | some v =>
      obtain ⟨y, τ, H1, pl, N, r1, I1, ⟨ys, hS, hz, n1⟩, nx⟩ := q
      obtain ⟨_, its, c, rv, hl, e⟩ := I1.jd hS
      show wpAny _ A.in1 (updateSeq S (·.push v) >>= _) _ _ _
      have hP := G.prog
      have hW := G.w
      obtain ⟨m, hm, h2⟩ := nx _ _ (I1.qa (its' := its ++ [v]) (f := (·.push v)) (t' := s1.toks) hS e (by simp) (rv.append (.cons r1 .nil)) (by rw [List.length_append, List.length_singleton]; omega)) rfl n1
      refine wpAny_bind (wpAny_updateSeq e rfl (wpAny_pure ⟨plainId_quiet F.plain_extend_loop _, ih m hm _ _ h2⟩) (by rw [List.size_toArray]; omega) (by show (its.toArray.push v).size ≤ sizeLine + 1; rw [Array.size_push, List.size_toArray]; omega))
theorem xk {pins : List (Addr × Obj)} {σ : St} {J : It} {H3 : Hp} {a : Addr} {s5 : Shared} {Y : Cx} {it : Addr} {fp : List Addr} {bX : Nat → Heap → Prop} {gn : Nat} {pp : List (Addr × Obj)} {A : Around} {E : Value → Shared → Prop} {QL : List Value → Shared → Prop} {R : List V → Hp → Prop}
    (hr : bV (k + 1) X.A) (G : tu X pins σ N' scope tn idx k elt tg iter ifs pos J H3 a s5 Y it fp bX gn pp) (hg : dS X N' scope k fun Y => PG Y tg g) (ht : dS X N' scope k fun Y => hV Y ifs tt) (he : dS X N' scope k fun Y => PE Y elt te)
    (zp : ∀ {Q : Option Value → Shared → Prop} {E : Value → Shared → Prop} {s : Shared}, wpAny (model X.prog X.w) X.A.in4 (pyNext (.ref a)) Q E s → wpAny (model X.prog X.w) A.in1 (pyNext (.ref a)) Q E s)
    (hW : ∀ S, H3 S = none → ∃ W : Nat → Nat → St → Hp → Prop, (∃ m, W 0 m (bL tn idx σ) (upd H3 S (.lst []))) ∧ tGenV J g tt te (takeIn S) (fun H => ∃ ys, H S = some (.lst ys) ∧ R ys H) W)
    (hQ : ∀ us ys s H, Inv X pins σ H s → Vals ys us → ys.length ≤ sizeLine → R ys H → QL us s) : wpAny (model X.prog X.w) A (collect (.ref a)) QL E s5 := by
  have hT : ∀ {s' : Shared}, s'.heap.IsGen a gn → s'.TypeIs (.ref a) "generator" := fun h => h.typeIs
  obtain ⟨W, ⟨m0, w0⟩, turn⟩ := hW s5.heap.objs.size (G.inv.hok.fresh (Nat.le_refl _))
  have I0 := G.inv.pinned (G.stat G.fr) (G.T.obj _ _ G.tn0)
  have N6 : s5.heap.objs.size ≠ a := fun e => by
    obtain ⟨o, _, _, ho, _⟩ := G.isg G.inv
    have := Heap.lt_size ho
    rw [e] at this
    exact Nat.lt_irrefl _ this
  unfold collect
  refine wpAny_bind (wpAny_runValue (codeAny_builtin F.entry_proto_collect ?_))
  rw [Around.under_plainId F.plain_proto_collect _]
  show wpAny _ A.in1 (newList [] >>= fun l => again (.builtin "list.__iadd__" ⟨[l, .ref a], []⟩)) _ _ s5
  refine wpAny_bind (wpAny_newObj_type ?_)
  refine wpAny_pure ⟨plainId_quiet F.plain_list_iadd _, codeAny_builtin F.entry_list_iadd ?_⟩
  rw [Around.under_plainId F.plain_list_iadd _]
  have I1 := I0.BD (ys := []) (its := []) (t' := s5.toks) .nil (Nat.zero_le _)
  have T1 := hT (G.isg I1.b6)
  show wpAny _ A.in1 (Builtin.List.listExtendWith (.ref s5.heap.objs.size) (.ref a) (.ref s5.heap.objs.size)) _ _ _
  unfold Builtin.List.listExtendWith
  refine wpAny_bind (wpAny_typeOf T1 ?_)
  have h1 : Builtin.List.listSameRef (.ref s5.heap.objs.size) (.ref a) = false := by simp [Builtin.List.listSameRef, N6]
  have h2 : (Value.type "generator" == Value.type "list") = false := by decide
  have h3 : (Value.type "generator" == Value.type "tuple") = false := by decide
  simp only [h1, h2, h3, Bool.or_false, Bool.false_eq_true, if_false]
  refine wpAny_bind (wpAny_pyIter_gen (G.isg I1.b6) ?_)
  refine wpAny_bind (wpAny_holding ?_)
  unfold Builtin.List.listLengthHint
  refine wpAny_bind (wpAny_specialOf T1 F.gen_no_len ?_)
  show wpAny _ A.in1 (specialOf (Value.ref a) (Str.ofString "__length_hint__") >>= _) _ _ _
  refine wpAny_bind (wpAny_specialOf T1 F.gen_no_hint ?_)
  refine wpAny_pure ?_
  show wpAny _ A.in1 (rule "list.extend.makes-room" >>= fun _ => Builtin.List.listTouch (.ref s5.heap.objs.size) >>= fun _ =>
    again (.builtin "list.extend.loop" ⟨[.ref s5.heap.objs.size, .ref a, .ref s5.heap.objs.size], []⟩)) _ _ _
  refine wpAny_bind (wpAny_rule ?_)
  obtain ⟨_, MJ, c1, N7, iD, nB⟩ := I1.jd aj
  have e1 : MJ = [] := by cases N7; rfl
  subst e1
  refine wpAny_bind ?_
  show wpAny _ A.in1 (updateSeq s5.heap.objs.size (·.push .none) >>= fun _ => updateSeq s5.heap.objs.size (·.pop)) _ _ _
  refine wpAny_bind (wpAny_updateSeq nB rfl ?_)
  have I2 := I1.qa (ys := [.aq]) (its' := [.none]) (f := (·.push .none)) (t' := s5.toks) aj nB (by simp) (.cons rfl .nil) (by decide)
  have sy := Heap.get?_update_self (Obj.mapSeq (·.push Value.none)) nB rfl
  refine wpAny_updateSeq sy rfl ?_
  obtain ⟨_, bW, c2, gA, fq, G4⟩ := I2.jd aj
  have I3 := I2.qa (ys := []) (its' := []) (f := (·.pop)) (t' := s5.toks) aj G4 (by
    cases gA with
    | cons r t => cases t; simp) .nil (Nat.zero_le _)
  rw [vN, vN] at I3
  refine wpAny_pure ⟨plainId_quiet F.plain_extend_loop _, vb (Z := fun H => ∃ ys, H s5.heap.objs.size = some (.lst ys) ∧ R ys H) hr G zp (fun s H I ⟨ys, hS, q⟩ => ?_) (m0 + 1) _ _ (zo G hg ht he I3 rfl turn w0)⟩
  obtain ⟨hz, its, c, rv, hl, e⟩ := I.jd hS
  show wpAny _ A (load s5.heap.objs.size >>= _) _ _ s
  refine wpAny_bind (wpAny_load e ?_)
  refine wpAny_pure ?_
  have := hQ its ys s H I rv hz q
  simpa using this
end
section
variable {X : Cx} {tg elt iter : Expr} {ifs : List Expr} {scope : Scope} {pos : Pos} {N' : List Str} {tn : Nat} {idx : List Nat} {wi : TI} {g : TG} {tt : TT} {te : TE} {c P : Addr} {k : Nat}
noncomputable def DB (P : Addr) (tn : Nat) (idx : List Nat) (wi : TI) (g : TG) (tt : TT) (te : TE) : TE := fun σ H Q => Dx P wi (fun J H1 => ∀ S, H1 S = none → ∃ W : Nat → Nat → St → Hp → Prop, (∃ m, W 0 m (bL tn idx σ) (upd H1 S (.lst []))) ∧
  tGenV J g tt te (takeIn S) (fun H2 => ∃ ys, H2 S = some (.lst ys) ∧ ∀ l, H2 l = none → Q (.ref l) (upd H2 l (.tup ys))) W) σ H
theorem mn {Q₁ : Value → Shared → Prop} {QL : List Value → Shared → Prop} {prog : Program} {w : World} {A : Around} {E : Value → Shared → Prop} {s : Shared} {I : Addr} (hT : s.TypeIs (.ref I) "generator")
    (W : wpAny (model prog w) A.in1 (collect (.ref I)) QL E s) (hsz : ∀ us s', QL us s' → us.length ≤ sizeLine)
    (h : ∀ us s', QL us s' → Q₁ (.ref s'.heap.objs.size) { s' with heap := s'.heap.push { cls := .type "tuple", data := .seq us.toArray } }) :
    codeAny (model prog w) A (.call (.builtin "tuple.__new__") ⟨[.type "tuple", .ref I], []⟩) (wants Q₁ E) s := by
  refine codeAny_of_tree ?_
  show wpAny _ A.in1 (do checkBuiltinCall "tuple.__new__" ⟨[.type "tuple", .ref I], []⟩; again (.builtin "tuple.__new__" ⟨[.type "tuple", .ref I], []⟩)) _ _ s
  refine wpAny_bind (wpAny_of_eq (F.newCall_tuple_1 _) (wpAny_pure ⟨plainId_quiet F.plain_tuple_new _, codeAny_builtin F.entry_tuple_new ?_⟩))
  rw [Around.under_plainId F.plain_tuple_new _]
  have j4 := sub_tuple_self
  have JB := init_tuple_lookup
  have N8 := madeHere_tuple
  wp_walk using wpAny_typeOf hT, wpAny_mono W
  · intro us s' hq
    show wpAny _ _ (Builtin.Tuple.tupleExact us.toArray >>= fun v => ret v) _ _ _
    unfold Builtin.Tuple.tupleExact
    refine wpAny_bind (wpAny_newObj_type ?_ (by show us.toArray.size ≤ sizeLine; rw [List.size_toArray]; exact hsz us s' hq))
    exact wpAny_pure (h us s' hq)
  · exact fun _ _ z => z
theorem vc {p jk : Pos} (hr : bV (k + 1) X.A) (hc : X.calm = true) (B : aO X.N X.env.scope scope N' tn idx)
    (h0 : scope.names.lookup (".0" : Str) = some .local) (jN : scope.isCoroutine = false) (iL : X.env.code = .ref c) (hd : PySem.W.CodeHd X.base c P) (dh : ∃ bm ob, BMod X.base mainGlobals X.mg bm ob)
    (mi : Gl X "tuple") (hm : X.mg "tuple" = none) (hi : PI X tg iter wi) (hg : dS X N' scope k fun Y => PG Y tg g) (ht : dS X N' scope k fun Y => hV Y ifs tt) (he : dS X N' scope k fun Y => PE Y elt te)
    (hs : ∀ x, genFold iter X.env x = pure x := by intro _; rfl) : PE X (.Call (.Name "tuple" p) [dm elt tg iter ifs scope jk] [] pos) (DB P tn idx wi g tt te) := by
  refine ⟨?_⟩
  intro pins s σ H Q I h
  refine wpAny_Call_Name_kw (fE I mi hm dU ?_)
  refine PyProof.Rows.callWith_type1 ?_ rfl rfl
  show wpAny _ _ (spliced ((false, eval (dm elt tg iter ifs scope jk) X.env) :: [])) _ _ s
  refine Calls.spliced_cons (tD hr hc B h0 jN iL hd dh hi hs I h ?_)
  intro J H3 a s5 Y it fp bX gn pp G hW
  refine Calls.spliced_nil ?_
  have hT : s5.TypeIs (.ref a) "generator" := (G.isg G.inv).typeIs
  refine callType_codes (Q₁ := fun obj au => au.TypeIs obj "tuple" ∧ EP X pins σ Q obj au) F.called_tuple (F.typeCall_tuple_1 _) F.entry_object_init
    (mn (QL := fun us s' => us.length ≤ sizeLine ∧ ∃ ys H', Inv X pins σ H' s' ∧ Vals ys us ∧ ∀ l, H' l = none → Q (.ref l) (upd H' l (.tup ys))) hT
      (xk hr G hg ht he (fun h => wpAny_of_in1 h) hW fun us ys s' H' I' rv hz q => ⟨by rw [← rv.length]; exact hz, ys, H', I', rv, q⟩) (fun us s' q => q.1) fun us s' ⟨hl, ys, H', I', rv, q⟩ => ⟨⟨_, Heap.get?_push_size _ rfl, rfl⟩, ?_⟩) fun obj au dy => ?_
  · have I2 : Inv X pins σ (upd H' s'.heap.objs.size (.tup ys)) { s' with heap := s'.heap.push { cls := .type "tuple", data := .seq us.toArray } } :=
      I'.laid (t' := s'.toks) (fun b o e => Heap.get?_push_of_some _ e) (Nat.le_refl _) (show ObjOk X.prog X.w _ _ _ (.tup ys) from ⟨by rw [rv.length]; exact hl, us, rv, ir.new _ _⟩)
    exact ⟨.ref s'.heap.objs.size, _, I2, rfl, q _ (I'.hok.fresh (Nat.le_refl _))⟩
  · exact ⟨dy.1, F.args_object_init_2 obj _, object_init_meets F.called_tuple.init.lookup F.called_tuple.made (by decide) X.prog X.w X.A.in1 _ au ⟨dy.1, rfl, dy.2⟩⟩
end
noncomputable def kf (xs : Array Nat) : Prop := xs.toList.Pairwise (· < ·)
theorem oY {xs : Array Nat} (h : kf xs) {i j : Nat} (oZ : i < j) (hj : j < xs.size) : xs[i] < xs[j] := by
  have := List.pairwise_iff_getElem.mp h i j (by simpa using Nat.lt_trans oZ hj) (by simpa using hj) oZ
  simpa using this
theorem below_go {xs : Array Nat} {v : Nat} (h : kf xs) : ∀ (fuel lo hi : Nat), hi - lo ≤ fuel → lo ≤ hi → hi ≤ xs.size → (∀ i (gz : i < xs.size), i < lo → xs[i] < v) → (∀ i (gz : i < xs.size), hi ≤ i → v ≤ xs[i]) →
    SetTable.below.go xs v fuel lo hi ≤ xs.size ∧ (∀ i (gz : i < xs.size), i < SetTable.below.go xs v fuel lo hi → xs[i] < v) ∧ ∀ i (gz : i < xs.size), SetTable.below.go xs v fuel lo hi ≤ i → v ≤ xs[i]
  | 0, lo, hi, hf, h1, h2, ha, hb => by
    have e : lo = hi := by omega
    subst e
    exact ⟨h2, ha, hb⟩
  | fuel + 1, lo, hi, hf, h1, h2, ha, hb => by
    unfold SetTable.below.go
    by_cases bo : lo < hi
    · rw [if_pos bo]
      dsimp only
      have hm : (lo + hi) / 2 < xs.size := by omega
      have e : xs.getD ((lo + hi) / 2) v = xs[(lo + hi) / 2] := by simp [Array.getD, hm]
      rw [e]
      by_cases hc : xs[(lo + hi) / 2] < v
      · rw [if_pos hc]
        refine below_go h fuel _ _ (by omega) (by omega) h2 (fun i gz hl => ?_) hb
        by_cases ei : i = (lo + hi) / 2
        · subst ei; exact hc
        · exact Nat.lt_trans (oY h (show i < (lo + hi) / 2 by omega) hm) hc
      · rw [if_neg hc]
        refine below_go h fuel _ _ (by omega) (by omega) (by omega) ha (fun i gz hl => ?_)
        by_cases ei : i = (lo + hi) / 2
        · subst ei; exact Nat.le_of_not_lt hc
        · exact Nat.le_trans (Nat.le_of_not_lt hc) (Nat.le_of_lt (oY h (show (lo + hi) / 2 < i by omega) gz))
    · rw [if_neg bo]
      have e : lo = hi := by omega
      subst e
      exact ⟨h2, ha, hb⟩
theorem n6 {xs : Array Nat} (v : Nat) (h : kf xs) : SetTable.below xs v ≤ xs.size ∧ (∀ i (gz : i < xs.size), i < SetTable.below xs v → xs[i] < v) ∧ ∀ i (gz : i < xs.size), SetTable.below xs v ≤ i → v ≤ xs[i] :=
  below_go h _ _ _ (by omega) (Nat.zero_le _) (Nat.le_refl _) (fun i _ z => absurd z (Nat.not_lt_zero _)) (fun i z z' => absurd z (Nat.not_lt.mpr z'))
theorem xl {xs : Array Nat} {v : Nat} (h : kf xs) (hn : xs[SetTable.below xs v]? ≠ some v) : kf (SetTable.insertAt xs (SetTable.below xs v) v) := by
  obtain ⟨b0, b1, b2⟩ := n6 v h
  generalize SetTable.below xs v = p at *
  unfold kf SetTable.insertAt
  have e : ((xs.extract 0 p).push v ++ xs.extract p xs.size).toList = xs.toList.take p ++ [v] ++ xs.toList.drop p := by
    simp
    exact List.take_of_length_le (by simp)
  rw [e]
  have hl : ∀ y ∈ xs.toList.take p, y < v := fun y hy => by
    obtain ⟨i, hi, rfl⟩ := List.mem_take_iff_getElem.mp hy
    have lH : i < p ∧ i < xs.size := by simpa [Nat.lt_min] using hi
    simpa using b1 i lH.2 lH.1
  have hr : ∀ y ∈ xs.toList.drop p, v < y := fun y hy => by
    obtain ⟨i, hi, rfl⟩ := List.mem_drop_iff_getElem.mp hy
    have lH : p + i < xs.size := by rw [Nat.add_comm]; simpa using hi
    have h1 : v ≤ xs[p + i] := b2 (p + i) lH (Nat.le_add_right _ _)
    have h2 : v ≠ xs[p + i] := fun z => by
      by_cases N9 : i = 0
      · subst N9
        exact hn (by rw [Nat.add_zero] at lH; rw [Array.getElem?_eq_getElem lH]; simpa using z.symm)
      · have q := oY h (show p < p + i by omega) lH
        have q2 := b2 p (by omega) (Nat.le_refl _)
        omega
    have : xs.toList[p + i]'(by simpa using lH) = xs[p + i] := by simp
    rw [this]
    omega
  have hp := List.take_append_drop p xs.toList
  have Oa : (xs.toList.take p ++ xs.toList.drop p).Pairwise (· < ·) := by rw [hp]; exact h
  obtain ⟨q1, q2, q3⟩ := List.pairwise_append.mp Oa
  refine List.pairwise_append.mpr ⟨List.pairwise_append.mpr ⟨q1, List.pairwise_singleton _ _, fun a ha b hb => ?_⟩, q2, fun a ha b hb => ?_⟩
  · rw [List.mem_singleton] at hb; subst hb; exact hl a ha
  · rcases List.mem_append.mp ha with ha | ha
    · exact q3 a ha b hb
    · rw [List.mem_singleton] at ha; subst ha; exact hr b hb
structure b5 (w : World) (t : SetTable) : Prop where
  dum : t.dummies = #[]
  ris : kf t.place
  led : t.led = !w.params.followText "set-order"
theorem zq (n : Nat) : kf (Array.range n) := by
  unfold kf
  rw [Array.toList_range]
  exact List.pairwise_lt_range
theorem b5.standIn {w : World} {t : SetTable} (h : b5 w t) (n : Nat) : b5 w (t.standIn n) := ⟨rfl, zq n, h.led⟩
theorem b5.orStandIn {w : World} {t : SetTable} (h : b5 w t) (n : Nat) : b5 w (t.orStandIn n) := by
  unfold SetTable.orStandIn
  split
  · exact h
  · exact h.standIn n
theorem v8 (j : Nat) : SetTable.has #[] j = false := by
  unfold SetTable.has
  have : (#[] : Array Nat)[SetTable.below #[] j]? = none := by simp
  rw [this]
  rfl
theorem tK {w : World} {t : SetTable} (h : b5 w t) {hashAt : Nat → Int} {hh : Int} {j : Nat} {d : Option Nat} : ∀ (fuel : Nat) (p : SetTable.Probe), p.dummy = none → SetTable.probe.go t hashAt hh fuel p = some (.empty j d) → t.slot j = .empty ∧ d = none
  | 0, p, _, e => by simp [SetTable.probe.go] at e
  | fuel + 1, p, hp, e => by
    unfold SetTable.probe.go at e
    have MK : ∀ p : SetTable.Probe, (t.advance p).dummy = p.dummy := fun p => by
      unfold SetTable.advance
      split <;> rfl
    cases hs : t.slot p.j with
    | empty =>
      rw [hs] at e
      have e' := Option.some.inj e
      injection e' with e1 e2
      exact ⟨by rw [← e1]; exact hs, by rw [← e2]; exact hp⟩
    | dummy =>
      exfalso
      unfold SetTable.slot at hs
      dsimp only at hs
      rw [h.dum, v8] at hs
      split at hs <;> simp at hs
    | live i =>
      rw [hs] at e
      dsimp only at e
      split at e
      · simp at e
      · exact tK h fuel _ (by rw [MK]; exact hp) e
theorem xm {w : World} {t : SetTable} (h : b5 w t) {j : Nat} (e : t.slot j = .empty) : t.place[SetTable.below t.place j]? ≠ some j := fun z => by
  unfold SetTable.slot at e
  dsimp only at e
  rw [z] at e
  simp at e
theorem b5.put {w : World} {t : SetTable} (h : b5 w t) {j : Nat} (e : t.slot j = .empty) : b5 w (t.put j).1 := by
  unfold SetTable.put
  refine ⟨?_, xl h.ris (xm h e), h.led⟩
  show (if SetTable.has t.dummies j then _ else t.dummies) = #[]
  rw [h.dum, v8]
  rfl
theorem b5.layNew {w : World} {t : SetTable} (h : b5 w t) (es : Array (Int × Value)) (hh : Int) (x : Value) : b5 w (layNew t es hh x).2.1 := by
  unfold PySem.layNew
  split
  · rename_i slot n8 hf
    unfold SetTable.freeSlot at hf
    refine (b5.put h ?_).orStandIn _
    split at hf
    · rename_i j dummy hp
      obtain ⟨e1, e2⟩ := tK h _ _ rfl hp
      subst e2
      have := Option.some.inj hf
      injection this with z1 _
      rw [← z1]
      exact e1
    · cases hf
  · exact h.standIn _
theorem BP {α : Type} (f : Nat → Option α) (n : Nat) : kf (((List.range n).filterMap fun j => (f j).map (j, ·)).map (·.1)).toArray := by
  unfold kf
  have e : (((List.range n).filterMap fun j => (f j).map (j, ·)).map (·.1)).toArray.toList = (List.range n).filter fun j => (f j).isSome := by
    rw [List.toList_toArray]
    induction List.range n with
    | nil => rfl
    | cons a l ih =>
      cases hf : f a with
      | none => simp [List.filterMap_cons, hf, ih]
      | some b => simp [List.filterMap_cons, hf, ih]
  rw [e]
  exact List.Pairwise.filter _ List.pairwise_lt_range
theorem b5.JC {w : World} {t : SetTable} (h : b5 w t) (es : Array (Int × Value)) (wanted : Nat) : b5 w (relayAll t es wanted).2.1 := by
  unfold relayAll
  split
  · rename_i t' order hr
    dsimp only
    split
    · unfold SetTable.relaid SetTable.laid at hr
      simp only [Option.bind_eq_bind, Option.bind_eq_some_iff, Option.pure_def] at hr
      obtain ⟨owner, _, hr⟩ := hr
      have := Option.some.inj hr
      injection this with z1 _
      subst z1
      exact ⟨rfl, BP (fun j => owner.getD j none) _, h.led⟩
    · exact h.standIn _
  · exact h.standIn _
theorem b5.BQ {w : World} {t : SetTable} (h : b5 w t) (b : Bool) : b5 w (if b = true then t else { t with plain := false }) := by
  split
  · exact h
  · exact ⟨h.dum, h.ris, h.led⟩
noncomputable def dz (e : Int × Value) : Int := match e.2 with | .int i _ => i | _ => 0
noncomputable def bQ (P : Program) (w : World) (h : Heap) (a : Addr) (ns : List Int) : Prop :=
  ∃ o es ep t, h.get? a = some o ∧ o.ExactSet ∧ o.data = .set es ep t ∧ ElemsOf (intKind P w) es.toList ∧ (es.toList.map dz).Perm ns ∧ ns.Nodup ∧ es.size < scanBound ∧ t.fits es.size = true ∧ b5 w t
theorem bQ.cp {P : Program} {w : World} {h h' : Heap} {a : Addr} {ns : List Int} (x : bQ P w h a ns) (k : ∀ o, h.get? a = some o → h'.get? a = some o) : bQ P w h' a ns :=
  let ⟨o, es, ep, t, e, r⟩ := x; ⟨o, es, ep, t, k o e, r⟩
noncomputable def fw (P : Program) (w : World) (a : Addr) (ns : List Int) : HO := .ext fun h => bQ P w h a ns
noncomputable def cF (ns : List Int) (m : Int) : List Int := if m ∈ ns then ns else ns ++ [m]
theorem vd {P : Program} {w : World} {es : List (Int × Value)} (h : ElemsOf (intKind P w) es) {k : Int} : (∃ e ∈ es, (intKind P w).is k e.2 = true) ↔ k ∈ es.map dz := by
  constructor
  · rintro ⟨e, he, hk⟩
    obtain ⟨t, e2⟩ := Value.isInt_shape (k := k) (v := e.2) hk
    exact List.mem_map.mpr ⟨e, he, by unfold dz; rw [e2]⟩
  · intro hm
    obtain ⟨e, he, q⟩ := List.mem_map.mp hm
    obtain ⟨⟨k', nQ, _⟩, _⟩ := h e he
    obtain ⟨t, e2⟩ := Value.isInt_shape (k := k') (v := e.2) nQ
    have : k' = k := by rw [← q]; unfold dz; rw [e2]
    exact ⟨e, he, this ▸ nQ⟩
section
variable {P : Program} {w : World} {A : Around} {E : Value → Shared → Prop} {s : Shared}
theorem o3 {h : Heap} {a : Addr} {o : Obj} {es : Array (Int × Value)} {ep : Nat} {t : SetTable} (ho : h.get? a = some o) (hex : o.ExactSet) (hd : o.data = .set es ep t)
    {g9 : Array (Int × Value)} {t' : SetTable} {ns : List Int} (jo : ElemsOf (intKind P w) g9.toList) (hp : (g9.toList.map dz).Perm ns) (hn : ns.Nodup) (hb : g9.size < scanBound) (hf : t'.fits g9.size = true) (ht : b5 w t') :
    (h.update a (Obj.putSet g9 t')).get? a = some { o with data := .set g9 (ep + 1) t' } ∧ bQ P w (h.update a (Obj.putSet g9 t')) a ns := by
  have hg : (h.update a (Obj.putSet g9 t')).get? a = some { o with data := .set g9 (ep + 1) t' } := by
    have := Heap.get?_update_self (Obj.putSet g9 t') ho (by rw [putSet_of g9 t' hd]; rfl)
    rw [putSet_of g9 t' hd] at this; exact this
  exact ⟨hg, _, g9, ep + 1, t', hg, hex, rfl, jo, hp, hn, hb, hf, ht⟩
theorem tL {g : Bool → Sem Unit} (hg : ∀ (b : Bool) (au : Shared) (Q' : Unit → Shared → Prop), Q' () au → wpAny (model P w) A (g b) Q' E au)
    {a : Addr} {o : Obj} {es : Array (Int × Value)} {ep : Nat} {t : SetTable} (ho : s.heap.get? a = some o) (hex : o.ExactSet) (hd : o.data = .set es ep t)
    {d7 : Array (Int × Value)} {t2 : SetTable} {ns : List Int} (tM : ElemsOf (intKind P w) d7.toList) (zt : (d7.toList.map dz).Perm ns) (hn : ns.Nodup)
    (o4 : d7.size < scanBound) (mq : t2.fits d7.size = true) (DC : b5 w t2) {n8 : Bool} {R : Option Bool → Shared → Prop}
    (h : ∀ h', Heap.SameBut a s.heap h' → bQ P w h' a ns → R (some true) { s with heap := h' }) :
    wpAny (model P w) A (do
        storeSet a d7 t2
        if (!n8 && t2.tooFull) = true then do
            g (relayAll t2 d7 (SetTable.grown d7.size)).2.2
            storeSet a (relayAll t2 d7 (SetTable.grown d7.size)).1 (relayAll t2 d7 (SetTable.grown d7.size)).2.1
            pure (some true)
          else pure (some true)) R E s := by
  refine wpAny_bind (wpAny_storeSet_of ho hd ?_ (fits_of_scanBound o4))
  obtain ⟨tN, zu⟩ := o3 (P := P) (w := w) ho hex hd tM zt hn o4 mq DC
  have G5 := Heap.SameBut.update s.heap a (Obj.putSet d7 t2)
  split
  · have hp := relayAll_perm t2 d7 (SetTable.grown d7.size)
    have yY := relayAll_fits t2 d7 (SetTable.grown d7.size)
    have y7 := DC.JC d7 (SetTable.grown d7.size)
    generalize relayAll t2 d7 (SetTable.grown d7.size) = Rl at hp yY y7 ⊢
    obtain ⟨KR, t3, PQ⟩ := Rl
    dsimp only at hp yY y7 ⊢
    have hsz : KR.size = d7.size := by rw [← Array.length_toList, hp.length_eq, Array.length_toList]
    have nR : KR.size < scanBound := by rw [hsz]; exact o4
    refine wpAny_bind (hg _ _ _ (wpAny_bind (wpAny_storeSet_of tN rfl ?_ (fits_of_scanBound nR))))
    obtain ⟨_, G6⟩ := o3 (P := P) (w := w) tN hex rfl (tM.perm hp) ((hp.map dz).trans zt) hn nR yY y7
    exact wpAny_pure (h _ (G5.trans (Heap.SameBut.update _ a _)) G6)
  · exact wpAny_pure (h _ G5 zu)
theorem qX {a : Addr} {ns : List Int} {m : Int} {tk : Tok} {Q : Bool → Shared → Prop} (hS : bQ P w s.heap a ns) (kP : ns.length + 1 < scanBound)
    (h : ∀ h', Heap.SameBut a s.heap h' → bQ P w h' a (cF ns m) → Q (decide (m ∉ ns)) { s with heap := h', toks := s.toks + 1 }) : wpAny (model P w) A (setAdd a (.int m tk)) Q E s := by
  unfold setAdd
  refine wpAny_holding (wpAny_bind ((intKind P w).pyHash (k := m) (intKind_is _ _ _ _) ?_))
  have wZ : (intKind P w).is m (.int m tk) = true := intKind_is _ _ _ _
  obtain ⟨o, es, ep, t, ho, hex, hd, jo, hp, hn, hb, hf, ht⟩ := hS
  have xn : ∀ k, (∃ e ∈ es.toList, (intKind P w).is k e.2 = true) ↔ k ∈ ns := fun k => (vd jo).trans hp.mem_iff
  have hlen : es.size = ns.length := by rw [← Array.length_toList, ← hp.length_eq, List.length_map]
  unfold setAddHashed setAddHashedIn
  refine wpAny_holding (wpAny_bind (wpAny_setState_of (s := { s with toks := s.toks + 1 }) ho hd hf ?_))
  dsimp only
  rw [byScan_of (x := .int m tk) rfl hb jo]
  simp only [↓reduceIte]
  unfold setAddByScan
  refine wpAny_bind (wpAny_bind (wpAny_rule (wpAny_bind (wpAny_setScan_of wZ ho hd hf jo ?_))))
  cases hr : List.findIdx? (fun e => (intKind P w).is m e.2) es.toList with
  | some j =>
    dsimp only
    obtain ⟨hj, Ob, _⟩ := List.findIdx?_eq_some_iff_getElem.mp hr
    have hm : m ∈ ns := (xn m).mp ⟨es.toList[j], List.getElem_mem hj, Ob⟩
    have := h s.heap (Heap.SameBut.refl a s.heap) (by unfold cF; rw [if_pos hm]; exact ⟨o, es, ep, t, ho, hex, hd, jo, hp, hn, hb, hf, ht⟩)
    rw [decide_eq_false (fun z => z hm)] at this
    exact wpAny_pure (wpAny_pure this)
  | none =>
    dsimp only
    have hm : m ∉ ns := fun z => by
      obtain ⟨e, he, q⟩ := (xn m).mpr z
      have := List.findIdx?_eq_none_iff.mp hr e he
      rw [q] at this; cases this
    have nC := layNew_perm t es ((intKind P w).hash m) (.int m tk)
    have o5 := layNew_fits t es ((intKind P w).hash m) (.int m tk)
    have jq := ht.layNew es ((intKind P w).hash m) (.int m tk)
    generalize layNew t es ((intKind P w).hash m) (.int m tk) = L at nC o5 jq ⊢
    obtain ⟨d7, t1, n8, P0⟩ := L
    dsimp only at nC o5 jq ⊢
    rw [Array.toList_push] at nC
    have tM : ElemsOf (intKind P w) d7.toList := (jo.push wZ rfl).perm nC
    have G7 : cF ns m = ns ++ [m] := by unfold cF; rw [if_neg hm]
    have zt : (d7.toList.map dz).Perm (cF ns m) := by
      rw [G7]
      refine (nC.map dz).trans ?_
      rw [List.map_append]
      exact List.Perm.append hp (.refl _)
    have KS : (cF ns m).Nodup := by
      rw [G7]
      exact List.nodup_append.mpr ⟨hn, by simp, fun a ha b hb => by rw [List.mem_singleton] at hb; rw [hb]; exact fun z => hm (z ▸ ha)⟩
    have o4 : d7.size < scanBound := by rw [← Array.length_toList, nC.length_eq, List.length_append, Array.length_toList, hlen]; simpa using kP
    have G8 : ∀ (b : Bool) (au : Shared) (Q' : Unit → Shared → Prop), Q' () au → wpAny (model P w) A (match b with | true => rule "set.scan.the-table-gave-way" | false => pure ()) Q' E au :=
      fun b au Q' hq => by cases b <;> first | exact wpAny_pure hq | exact wpAny_rule hq
    have G9 : ∀ h', Heap.SameBut a s.heap h' → bQ P w h' a (cF ns m) → Q true { s with heap := h', toks := s.toks + 1 } := by
      intro h' jM h8
      have := h h' jM h8
      rw [decide_eq_true hm] at this
      exact this
    refine wpAny_bind (G8 _ _ _ ?_)
    split
    · refine wpAny_bind ?_
      rw [hashByValue_scannable 8 (x := .int m tk) rfl]
      refine wpAny_pure (tL (P := P) (w := w) (s := { s with toks := s.toks + 1 }) G8 ho hex hd tM zt KS o4 ?_ (jq.BQ _) fun h' jM h8 => wpAny_pure (G9 h' jM h8))
      split
      · exact o5
      · exact SetTable.fits_plain_off o5
    · refine wpAny_bind (wpAny_pure ?_)
      simp only [↓reduceIte]
      exact tL (P := P) (w := w) (s := { s with toks := s.toks + 1 }) G8 ho hex hd tM zt KS o4 o5 jq fun h' jM h8 => wpAny_pure (G9 h' jM h8)
theorem xo {ns : List Int} (h : ns.Nodup) (m : Int) : (cF ns m).Nodup := by
  unfold cF
  split
  · exact h
  · rename_i hm
    exact List.nodup_append.mpr ⟨h, by simp, fun a ha b hb => by rw [List.mem_singleton] at hb; rw [hb]; exact fun z => hm (z ▸ ha)⟩
theorem BR {ns : List Int} {m k : Int} : k ∈ cF ns m ↔ k ∈ ns ∨ k = m := by
  unfold cF
  split
  · rename_i hm
    exact ⟨.inl, fun h => h.elim id fun e => e ▸ hm⟩
  · simp
theorem tO {ns : List Int} {m : Int} : (cF ns m).length ≤ ns.length + 1 := by
  unfold cF
  split
  · omega
  · simp
end
noncomputable def c6 (ns : List Int) : List Int := ns.foldl cF []
theorem zv (ns : List Int) (m : Int) : c6 (ns ++ [m]) = cF (c6 ns) m := by
  unfold c6
  rw [List.foldl_append]
  rfl
theorem xq (ns : List Int) : (c6 ns).Nodup := by
  unfold c6
  have : ∀ (l acc : List Int), acc.Nodup → (l.foldl cF acc).Nodup := fun l => by
    induction l with
    | nil => exact fun acc h => h
    | cons a l ih => exact fun acc h => ih _ (xo h a)
  exact this ns [] .nil
theorem BU {ns : List Int} {k : Int} : k ∈ c6 ns ↔ k ∈ ns := by
  unfold c6
  have : ∀ (l acc : List Int), k ∈ l.foldl cF acc ↔ k ∈ acc ∨ k ∈ l := fun l => by
    induction l with
    | nil => intro acc; simp
    | cons a l ih =>
      intro acc
      rw [List.foldl_cons, ih, BR, List.mem_cons]
      constructor
      · rintro ((h | h) | h)
        · exact .inl h
        · exact .inr (.inl h)
        · exact .inr (.inr h)
      · rintro (h | h | h)
        · exact .inl (.inl h)
        · exact .inl (.inr h)
        · exact .inr h
  rw [this]
  simp
theorem n9 (ns : List Int) : (c6 ns).length ≤ ns.length := by
  unfold c6
  have : ∀ (l acc : List Int), (l.foldl cF acc).length ≤ acc.length + l.length := fun l => by
    induction l with
    | nil => intro acc; simp
    | cons a l ih =>
      intro acc
      rw [List.foldl_cons, List.length_cons]
      have h1 := ih (cF acc a)
      have h2 := @tO acc a
      omega
  simpa using this ns []
section
variable {P : Program} {w : World} {A : Around} {R : Result → Shared → Prop} {I : Addr} {fp wr : List Addr} {G : Array GenState → Array GenState → Prop} {n : Nat} {St : Nat → Shared → Prop}
theorem BV {vs : List Int} {Pv : Nat → Value → Prop} (W : WalksS P w A.in1 I fp wr G vs.length Pv St) (S : Addr) (tP : S ∉ fp) (BW : ∀ (i : Nat) (v : Value), Pv i v → ∃ m t, vs[i]? = some m ∧ v = .int m t) (hb : vs.length + 1 < scanBound) :
    ∀ (k i : Nat) (s : Shared), vs.length - i = k → i ≤ vs.length → St i s → bQ P w s.heap S (c6 (vs.take i)) →
      (∀ s', Moved (S :: wr) G s s' → bQ P w s'.heap S (c6 vs) → R (.ok (.ret .none)) s') →
      codeAny (model P w) A (.builtin "set.update.loop" ⟨[.ref S, .ref I], []⟩) R s := by
  have KU : S ∉ wr := fun h => tP (W.sub _ h)
  have j4 : ∀ b ∈ wr, b ∈ S :: wr := fun b hb => List.mem_cons_of_mem _ hb
  intro k
  induction k with
  | zero =>
    intro i s hk hi jO hS hR
    have zp : i = vs.length := by omega
    subst zp
    refine codeAny_builtin F.entry_set_update_loop ?_
    rw [Around.under_plainId F.plain_set_update_loop _]
    show wpAny _ A.in1 (pyNext (.ref I) >>= _) _ _ s
    refine wpAny_bind (W.done s _ _ jO fun s' hm => ?_)
    rw [List.take_length] at hS
    exact wpAny_pure (hR s' (hm.mono j4) (hS.cp fun o e => hm.heap S _ KU e))
  | succ k ih =>
    intro i s hk hi jO hS hR
    have bo : i < vs.length := by omega
    refine codeAny_builtin F.entry_set_update_loop ?_
    rw [Around.under_plainId F.plain_set_update_loop _]
    show wpAny _ A.in1 (pyNext (.ref I) >>= _) _ _ s
    refine wpAny_bind (W.item i s _ _ bo jO fun v s' hP ML hm => ?_)
    obtain ⟨m, t, kg, rfl⟩ := BW i v hP
    have h8 : bQ P w s'.heap S (c6 (vs.take i)) := hS.cp fun o e => hm.heap S _ KU e
    show wpAny _ A.in1 (holding [Value.int m t] (setAdd S (.int m t)) >>= _) _ _ s'
    have kP : (c6 (vs.take i)).length + 1 < scanBound := by
      have h1 := n9 (vs.take i)
      rw [List.length_take] at h1
      omega
    refine wpAny_bind (wpAny_holding (qX h8 kP fun h' jM G6 => ?_))
    have Oc : bQ P w h' S (c6 (vs.take (i + 1))) := by
      rw [List.take_add_one, kg]
      show bQ P w h' S (c6 (vs.take i ++ [m]))
      rw [zv]
      exact G6
    refine wpAny_pure ⟨plainId_quiet F.plain_set_update_loop _, ih (i + 1) _ (by omega) bo (W.frame _ s' _ _ ML (Nat.le_succ _) fun b hb o e => ?_) Oc fun bw MM MN => ?_⟩
    · rw [jM.2 b (fun h : b = S => tP (by rw [← h]; exact hb))]; exact e
    · refine hR bw (Moved.trans W.gtrans ((hm.mono j4).then_heap (Nat.le_succ _) fun b o hb e => ?_) MM) MN
      rw [jM.2 b (fun h : b = S => hb (by rw [h]; exact List.mem_cons_self))]; exact e
end
theorem sub_tuple_set : isSubtype (.type "tuple") (.type "set") = pure false := by rw [isSubtype_type]; kernel_rfl
theorem qf : isSubtype (.type "tuple") (.type "frozenset") = pure false := by rw [isSubtype_type]; kernel_rfl
section
variable {P : Program} {w : World} {A : Around} {E : Value → Shared → Prop} {s : Shared}
noncomputable abbrev fY (w : World) : Obj := { cls := .type "set", dict := none, data := .set #[] 0 (.fresh 0 0 (!w.params.followText "set-order")) }
theorem wa {h : Heap} : bQ P w (h.push (fY w)) h.objs.size [] := ⟨_, #[], 0, _, Heap.get?_push_size _ rfl, ⟨rfl, rfl, rfl⟩, rfl, fun e he => by simp at he, by simp, by simp, by decide, by rfl, rfl, List.Pairwise.nil, rfl⟩
theorem BX (a : Value) {Q₁ : Value → Shared → Prop} (h : Q₁ (.ref s.heap.objs.size) { s with heap := s.heap.push (fY w) }) :
    codeAny (model P w) A (.call (.builtin "set.__new__") ⟨[.type "set", a], []⟩) (wants Q₁ E) s := by
  refine codeAny_of_tree ?_
  show wpAny _ A.in1 (do checkBuiltinCall "set.__new__" ⟨[.type "set", a], []⟩; again (.builtin "set.__new__" ⟨[.type "set", a], []⟩)) _ _ s
  refine wpAny_bind (wpAny_of_eq (F.newCall_set_1 a) (wpAny_pure ⟨plainId_quiet F.plain_set_new _, codeAny_builtin F.entry_set_new ?_⟩))
  rw [Around.under_plainId F.plain_set_new _]
  unfold Builtin.«set.__new__» Builtin.Frozenset.newClass
  have j4 := sub_set_self
  obtain ⟨hp, g, d, tk, os⟩ := s
  dsimp only
  wp_walk
  refine wpAny_askSetting (wpAny_pure ?_)
  dsimp only
  simp only [newObj]
  refine wpAny_bind (wpAny_alloc (wpAny_pure ?_))
  exact wpAny_pure h
theorem bQ.typeIs {h : Heap} {a : Addr} {ns : List Int} {s : Shared} (x : bQ P w s.heap a ns) : s.TypeIs (.ref a) "set" := let ⟨o, _, _, _, ho, hex, _⟩ := x; ⟨o, ho, hex.1⟩
theorem mr {T : String} {l : Addr} {itob : Obj} {vs : List Int} {Pv : Nat → Value → Prop} {St : Addr → Nat → Heap → Prop} {Q : Value → Shared → Prop} (hh : A.handled = none)
    (hl : ∃ o, s.heap.get? l = some o) (hT : ∀ s1 : Shared, (∀ o, s.heap.get? l = some o → s1.heap.get? l = some o) → s1.TypeIs (.ref l) T) (h1 : isSubtype (.type T) (.type "set") = pure false) (h2 : isSubtype (.type T) (.type "frozenset") = pure false) (h3 : (Value.type T == Value.type "dict") = false)
    (hit : ∀ (A' : Around) (s1 : Shared) (Q' : Value → Shared → Prop) (E' : Value → Shared → Prop), (∀ o, s.heap.get? l = some o → s1.heap.get? l = some o) → Q' (.ref s1.heap.objs.size) { s1 with heap := s1.heap.push itob } → wpAny (model P w) A' (pyIter (.ref l)) Q' E' s1)
    (hW : ∀ (A' : Around) (I : Addr), A'.handled = none → l ≠ I → Walks P w A' I [I, l] [I] vs.length Pv (St I)) (Od : ∀ h1 : Heap, (∀ o, s.heap.get? l = some o → h1.get? l = some o) → St h1.objs.size 0 (h1.push itob))
    (BW : ∀ (i : Nat) (v : Value), Pv i v → ∃ m t, vs[i]? = some m ∧ v = .int m t) (hb : vs.length + 1 < scanBound)
    (h : ∀ (h' : Heap) (tk : Nat), bQ P w h' s.heap.objs.size (c6 vs) → (∀ b o, s.heap.get? b = some o → h'.get? b = some o) → Q (.ref s.heap.objs.size) { s with heap := h', toks := tk }) :
    wpAny (model P w) A (call (.type "set") [.ref l]) Q E s := by
  obtain ⟨c, tl, P1⟩ := F.called_set.mro
  have PR := F.called_set.made
  have j4 := F.called_set.sub
  refine wpAny_call (codeAny_of_tree ?_)
  show wpAny _ _ (callAny (.type "set") _) _ _ _
  refine wpAny_pure ⟨Code.quiet_builtin _ (by decide +kernel), codeAny_builtin F.entry_type_call ?_⟩
  rw [Around.under_plain (weight_type_call_type "set" [.ref l] []) rfl]
  have k1 := F.called_set.notType
  have k2 := F.called_set.canCreate
  have Qb := F.typeCall_set_1 (.ref l)
  repeat (any_goals (first | assumption | wp_step))
  refine codeAny_mono (BX (P := P) (w := w) (.ref l) (E := E) (Q₁ := fun obj au => obj = .ref s.heap.objs.size ∧ au = { s with heap := s.heap.push (fY w) }) ⟨rfl, rfl⟩) fun r au hr => ?_
  cases r with
  | error e => exact hr
  | ok fl =>
    cases fl with
    | ret obj =>
      obtain ⟨rfl, rfl⟩ := hr
      have hS : (s.heap.push (fY w)).get? s.heap.objs.size = some { cls := .type "set", dict := none, data := .set #[] 0 (.fresh 0 0 (!w.params.followText "set-order")) } := Heap.get?_push_size _ rfl
      have Oe : Shared.TypeIs { s with heap := s.heap.push (fY w) } (.ref s.heap.objs.size) "set" := ⟨_, hS, rfl⟩
      have kp : ∀ b o, s.heap.get? b = some o → (s.heap.push (fY w)).get? b = some o := fun b o e => Heap.get?_push_of_some _ e
      have sz : (s.heap.push (fY w)).objs.size = s.heap.objs.size + 1 := by rw [Heap.size_push]
      have Ha := F.called_set.init.lookup
      have Qc := F.called_set.init.bind (.ref s.heap.objs.size)
      repeat (any_goals (first | assumption | wp_step))
      refine codeAny_mono (codeAny_call_builtin (R := wants (fun r fW => r = .none ∧ ∃ h' tk, fW = { s with heap := h', toks := tk } ∧ bQ P w h' s.heap.objs.size (c6 vs) ∧
          (∀ b o, s.heap.get? b = some o → h'.get? b = some o)) E) F.called_set.init.plain F.entry_set_init (check_set_init_1 Oe ?_)) fun MO fW xr => ?_
      · have Qd := hT { s with heap := s.heap.push (fY w) } (fun o e => kp l o e)
        unfold Builtin.«set.__init__» noKeywords Builtin.Frozenset.updateFrom
        generalize Of : pyIter = PI
        wp_walk
        subst Of
        obtain ⟨ol, Og⟩ := hl
        have KW : l < s.heap.objs.size := Heap.lt_size Og
        refine hit _ { s with heap := s.heap.push (fY w) } _ _ (fun o e => kp l o e) ?_
        refine wpAny_bind (wpAny_runValue ?_)
        have Oh : A.in1.in1.in1.handled = none := by simp [hh]
        have MP : l ≠ (s.heap.push (fY w)).objs.size := by rw [sz]; exact Nat.ne_of_lt (Nat.lt_succ_of_lt KW)
        have tP : s.heap.objs.size ∉ [(s.heap.push (fY w)).objs.size, l] := by
          rw [sz]; simp only [List.mem_cons, List.not_mem_nil, or_false, not_or]
          exact ⟨Nat.ne_of_lt (Nat.lt_succ_self _), Nat.ne_of_gt KW⟩
        refine BV ((hW _ (s.heap.push (fY w)).objs.size Oh MP).toS) s.heap.objs.size tP BW hb (vs.length - 0) 0 _ (by omega) (Nat.zero_le _) (Od (s.heap.push (fY w)) fun o e => kp l o e) (wa.cp fun o e => Heap.get?_push_of_some _ e) ?_
        intro s' hm h8
        obtain ⟨h', g', d', zx, Dn⟩ := s'
        have eg : g' = s.gens := hm.gens
        have ed : d' = s.drawn := hm.drawn
        have eo : Dn = s.os := hm.os
        subst eg; subst ed; subst eo
        show wpAny _ _ _ _ _ _
        refine wpAny_pure ?_
        show wpAny _ _ (ret Value.none) _ _ _
        refine wpAny_pure ⟨rfl, h', zx, rfl, h8, fun b o e => ?_⟩
        have zy : b < s.heap.objs.size := Heap.lt_size e
        refine hm.heap b o ?_ (Heap.get?_push_of_some _ (kp b o e))
        simp only [List.mem_cons, List.not_mem_nil, or_false, not_or]
        exact ⟨Nat.ne_of_lt zy, by rw [sz]; exact Nat.ne_of_lt (Nat.lt_succ_of_lt zy)⟩
      · cases MO with
        | error e => exact xr
        | ok JD =>
          cases JD with
          | ret r =>
            obtain ⟨rfl, h', tk, rfl, h8, nQ⟩ := xr
            repeat (any_goals (first | assumption | wp_step))
            exact h _ _ h8 nQ
          | _ => exact xr.elim
    | _ => exact hr.elim
end
theorem zz : Manifest.owners.lookup (String.ofList ['r', 'o', 't', 'a', 'r', 'e', 't', 'i', '_', 't', 'e', 's'].reverse) = some Manifest.sig_set_iterator := by kernel_rfl
theorem cu : Slot "set_iterator" "__next__" "set_iterator.__next__" :=
  .of (owner := "set_iterator") (n := "__next__") (by rw [typeLookup_type, builtinLookup_eq_fast]; kernel_rfl) (by decide +kernel) (by decide +kernel) (by decide +kernel)
    (by first | exact .inl (by decide +kernel) | exact .inr (by decide +kernel)) (by rw [isSubtype_type]; kernel_rfl)
theorem iM : entryFor table "set_iterator.__next__" = some Builtin.«set_iterator.__next__» := entryFor_of_tree (by kernel_rfl)
theorem iN (a : Value) : argsOk "set_iterator.__next__" ⟨[a], []⟩ := by
  unfold argsOk; rw [signature?_of (id := "set_iterator.__next__") (n := ['_', '_', 't', 'x', 'e', 'n', '_', '_']) (o := ['r', 'o', 't', 'a', 'r', 'e', 't', 'i', '_', 't', 'e', 's']) (by kernel_rfl) zz]; kernel_rfl
theorem o6 : Slot "set_iterator" "__iter__" "set_iterator.__iter__" :=
  .of (owner := "set_iterator") (n := "__iter__") (by rw [typeLookup_type, builtinLookup_eq_fast]; kernel_rfl) (by decide +kernel) (by decide +kernel) (by decide +kernel)
    (by first | exact .inl (by decide +kernel) | exact .inr (by decide +kernel)) (by rw [isSubtype_type]; kernel_rfl)
theorem xt : entryFor table "set_iterator.__iter__" = some Builtin.«dict_keyiterator.__iter__» :=
  entryFor_alias (id' := "dict_keyiterator.__iter__") (by kernel_rfl) (by first | rfl | decide +kernel | (unfold String.splitOn; simp +decide [String.splitOnAux])) (by decide +kernel) (by kernel_rfl)
theorem xu (a : Value) : argsOk "set_iterator.__iter__" ⟨[a], []⟩ := by
  unfold argsOk; rw [signature?_of (id := "set_iterator.__iter__") (n := ['_', '_', 'r', 'e', 't', 'i', '_', '_']) (o := ['r', 'o', 't', 'a', 'r', 'e', 't', 'i', '_', 't', 'e', 's']) (by kernel_rfl) zz]; kernel_rfl
theorem ve : entryFor table "set.__iter__" = some Builtin.«frozenset.__iter__» :=
  entryFor_alias (id' := "frozenset.__iter__") (by kernel_rfl) (by first | rfl | decide +kernel | (unfold String.splitOn; simp +decide [String.splitOnAux])) (by decide +kernel) (by kernel_rfl)
noncomputable def d8 (h : Heap) (I a : Addr) (first : Value) (i n ep : Nat) : Prop := ∃ o, h.get? I = some o ∧ o.cls = .type "set_iterator" ∧ o.data = .fields #[first, .int i 0, .ref a, .int n 0, .int ep 0]
theorem d8.typeIs {s : Shared} {I a : Addr} {first : Value} {i n ep : Nat} (x : d8 s.heap I a first i n ep) : s.TypeIs (.ref I) "set_iterator" := let ⟨o, ho, hc, _⟩ := x; ⟨o, ho, hc⟩
theorem eY {α : Type} : ∀ {l : List α} {i : Nat} (h : i < l.length), (l[i] :: l.eraseIdx i).Perm l
  | [], i, h => by simp at h
  | x :: l, 0, h => .refl _
  | x :: l, i + 1, h => by
    rw [List.eraseIdx_cons_succ, List.getElem_cons_succ]
    exact (List.Perm.swap _ _ _).trans (.cons _ (eY (by simpa using h)))
section
variable {P : Program} {w : World} {A : Around} {E : Value → Shared → Prop} {s : Shared}
theorem wp_choose {src : Source} {n : Nat} {Q : Nat → Shared → Prop} (hn : n ≠ 0) (h : ∀ i d, i < n → Q i { s with drawn := d }) : wpAny (model P w) A (choose src n) Q E s := fun Γ p _ => by
  refine ⟨hn, ?_⟩
  exact h _ _ (Nat.mod_lt _ (Nat.pos_of_ne_zero hn))
theorem mw {α : Type} : ∀ (n : Nat) (xs : List α) {s : Shared} {Q : List α → Shared → Prop}, n = xs.length → (∀ ys d, ys.Perm xs → Q ys { s with drawn := d }) → wpAny (model P w) A (drawOrder n xs) Q E s
  | 0, xs, s, Q, hn, h => by
    have : xs = [] := List.eq_nil_of_length_eq_zero hn.symm
    subst this
    exact wpAny_pure (h [] s.drawn .nil)
  | n + 1, [], s, Q, hn, h => by simp at hn
  | n + 1, x :: xs, s, Q, hn, h => by
    show wpAny _ _ (choose .order (x :: xs).length >>= _) _ _ s
    refine wpAny_bind (wp_choose (by simp) fun i d hi => ?_)
    have e : (x :: xs)[i]? = some (x :: xs)[i] := List.getElem?_eq_getElem hi
    rw [e]
    dsimp only
    refine wpAny_bind (mw n _ (by rw [List.length_eraseIdx_of_lt hi]; simp at hn ⊢; omega) fun ys d' hp => wpAny_pure (h _ _ ?_))
    exact (List.Perm.cons _ hp).trans (eY hi)
end
section
variable {P : Program} {w : World} {A : Around} {E : Value → Shared → Prop} {s : Shared}
structure jr (P : Program) (w : World) (h : Heap) (a : Addr) (es : Array (Int × Value)) (ep : Nat) (t : SetTable) : Prop where
  at_ : ∃ o, h.get? a = some o ∧ o.ExactSet ∧ o.data = .set es ep t
  fits : t.fits es.size = true
  tab : b5 w t
theorem wc {α : Type} (next : Nat → Nat) : ∀ (fuel k : Nat) (left : List α) (out : Array α), fuel = left.length → (pickOrder.go next fuel k left out).toList.Perm (out.toList ++ left)
  | 0, k, left, out, h => by
    have : left = [] := List.eq_nil_of_length_eq_zero h.symm
    subst this
    simp [pickOrder.go]
  | fuel + 1, k, left, out, h => by
    unfold pickOrder.go
    have hl : next k % left.length < left.length := Nat.mod_lt _ (by omega)
    rw [List.getElem?_eq_getElem hl]
    dsimp only
    refine (wc next fuel (k + 1) _ _ (by rw [List.length_eraseIdx_of_lt hl]; omega)).trans ?_
    rw [Array.toList_push, List.append_assoc]
    exact List.Perm.append_left _ (eY hl)
theorem qY {α : Type} (next : Nat → Nat) (xs : Array α) : (pickOrder next xs).toList.Perm xs.toList := by
  unfold pickOrder
  exact (wc next xs.size 0 xs.toList #[] (by simp)).trans (by simp)
theorem mx {Q : Bool → Shared → Prop} (h : Q (w.params.followText "set-order") s) : wpAny (model P w) A setsByText Q E s := by
  unfold setsByText
  exact wpAny_bind (wpAny_askSetting (wpAny_pure h))
theorem o7 {a : Addr} {es : Array (Int × Value)} {ep : Nat} {t : SetTable} {slot given : Nat} {Q : Option (Value × Nat) → Shared → Prop} (hE : jr P w s.heap a es ep t)
    (hd : w.params.followText "set-order" = false → (!t.plain && decide (es.size > 1)) = false)
    (h1 : w.params.followText "set-order" = true → Q ((pickOrder (w.params.setOrder a ep) es)[given]?.map fun e => (e.2, slot)) s)
    (h2 : w.params.followText "set-order" = false → Q (match es[SetTable.below t.place slot]?, t.place[SetTable.below t.place slot]? with | some (_, x), some j => some (x, j + 1) | _, _ => none) s) :
    wpAny (model P w) A (setNext a slot given ep) Q E s := by
  obtain ⟨⟨o, ho, hex, nS⟩, hf, ht⟩ := hE
  unfold setNext
  refine wpAny_bind (wpAny_setState_of ho nS hf ?_)
  dsimp only
  refine wpAny_bind (mx ?_)
  cases hb : w.params.followText "set-order" with
  | true =>
    simp only [if_true, bne_self_eq_false, Bool.false_eq_true, if_false]
    unfold setWalk
    refine wpAny_bind (wpAny_bind (wpAny_setState_of ho nS hf ?_))
    dsimp only
    refine wpAny_bind (mx ?_)
    rw [hb]
    simp only [if_true]
    refine wpAny_bind (wpAny_askSetting (wpAny_pure (wpAny_pure ?_)))
    exact h1 hb
  | false =>
    simp only [Bool.false_eq_true, if_false]
    have jJ := hd hb
    have MQ : t.led = true := by rw [ht.led, hb]; rfl
    show wpAny _ _ (if (!t.plain && decide (es.size > 1)) = true then _ else _) _ _ s
    rw [jJ]
    simp only [Bool.false_eq_true, if_false]
    refine wpAny_bind ?_
    show wpAny _ _ (if (!t.led && !es.isEmpty) = true then _ else _) _ _ s
    rw [MQ]
    simp only [Bool.not_true, Bool.false_and, Bool.false_eq_true, if_false]
    exact wpAny_pure (wpAny_pure (h2 hb))
end
section
variable {P : Program} {w : World} {A : Around} {E : Value → Shared → Prop} {s : Shared}
theorem d8.qe {h : Heap} {I a : Addr} {first x : Value} {i n ep : Nat} (hit : d8 h I a first i n ep) : d8 (h.update I (Obj.mapFields (·.setIfInBounds 0 x))) I a x i n ep := by
  obtain ⟨o, ho, hc, hd⟩ := hit
  exact ⟨_, Heap.get?_update_self _ ho (Obj.isFreed_of_fields (Obj.data_mapFields hd _)), (Obj.cls_mapFields ..).trans hc, by rw [Obj.data_mapFields hd]; simp⟩
theorem d8.Hb {h : Heap} {I a : Addr} {first : Value} {i n ep : Nat} (hit : d8 h I a first i n ep) : d8 (h.update I (Obj.mapFields (·.setIfInBounds 1 (rawInt ((i : Int) + 1))))) I a first (i + 1) n ep := by
  obtain ⟨o, ho, hc, hd⟩ := hit
  exact ⟨_, Heap.get?_update_self _ ho (Obj.isFreed_of_fields (Obj.data_mapFields hd _)), (Obj.cls_mapFields ..).trans hc, by rw [Obj.data_mapFields hd]; simp [rawInt]⟩
theorem kh {I a : Addr} {first x : Value} {i n ep k : Nat} {Q : Unit → Shared → Prop} (hk : k < 5) (hit : d8 s.heap I a first i n ep) (h : Q () { s with heap := s.heap.update I (Obj.mapFields (·.setIfInBounds k x)) }) : wpAny (model P w) A (setField (.ref I) k x) Q E s := by
  obtain ⟨o, ho, hc, hd⟩ := hit
  exact wpAny_setField ho hd (by simpa using hk) h
theorem wd {Q : Fin → Shared → Prop} (hh : A.handled = none) (h : ∀ e h', s.TypeIs e "StopIteration" ∨ True → (∀ b o, s.heap.get? b = some o → h'.get? b = some o) → Shared.TypeIs { s with heap := h' } e "StopIteration" → E e { s with heap := h' }) :
    wpAny (model P w) A (newExc (.type "StopIteration") [] >>= fun e => raiseNew e) Q E s := by
  refine wpAny_bind ?_
  simp only [newExc, newTuple]
  refine wpAny_bind (wpAny_newObj_type ?_ (by size_fits))
  refine wpAny_bind (m := firstArgMember _ _) (wpAny_of_eq (a := Value.none) (by first | rfl | (simp only [firstArgMember]; rfl)) ?_)
  refine wpAny_newObj_type ?_ (by size_fits)
  simp only [raiseNew]
  refine wpAny_bind (wpAny_handled ?_)
  rw [hh]
  refine wpAny_bind (wpAny_pure (wpAny_throw ?_))
  exact h _ _ (.inr trivial) (fun b o e => Heap.get?_push_of_some _ (Heap.get?_push_of_some _ e)) ⟨_, Heap.get?_push_size _ rfl, rfl⟩
theorem tQ {Q : Option Value → Shared → Prop} {e : Value} (hT : s.TypeIs e "StopIteration") (h : Q none s) : wpAny (model P w) A (do let b ← isInstance e (.type "StopIteration"); if b = true then pure none else throw e) Q E s :=
  wpAny_bind (wpAny_isInstance (T := "StopIteration") (b := true) hT isSubtype_stop (wpAny_pure h))
theorem Eu {I a : Addr} {slot i ep next : Nat} {es : Array (Int × Value)} {t : SetTable} {x : Value} {Q : Option Value → Shared → Prop} (hit : d8 s.heap I a (.int slot 0) i es.size ep) (hE : jr P w s.heap a es ep t)
    (hd : w.params.followText "set-order" = false → (!t.plain && decide (es.size > 1)) = false)
    (h1 : w.params.followText "set-order" = true → (pickOrder (w.params.setOrder a ep) es)[i]?.map (fun e => (e.2, slot)) = some (x, next))
    (h2 : w.params.followText "set-order" = false → (match es[SetTable.below t.place slot]?, t.place[SetTable.below t.place slot]? with | some (_, x), some j => some (x, j + 1) | _, _ => none) = some (x, next))
    (hQ : ∀ h', d8 h' I a (.int next 0) (i + 1) es.size ep → Heap.SameBut I s.heap h' → Q (some x) { s with heap := h' }) : wpAny (model P w) A (pyNext (.ref I)) Q E s := by
  obtain ⟨o, ho, hc, jJ⟩ := id hit
  obtain ⟨oa, qZ, BZ, q9⟩ := hE.at_
  unfold pyNext
  refine wpAny_bind (wpAny_attempt (wpAny_callSpecial?_slot (name := Str.ofString "__next__") hit.typeIs cu (wpAny_call_entry cu hit.typeIs iM ?_ (iN _))))
  unfold Builtin.«set_iterator.__next__»
  refine wpAny_bind (m := slotArgs "__next__" 0 _) (wpAny_pure ?_)
  dsimp only
  refine wpAny_bind (wpAny_fieldsOf ho jJ ?_)
  dsimp only
  refine wpAny_bind (wpAny_setEntries_of qZ q9 hE.fits ?_)
  simp only [bne_self_eq_false, Bool.false_eq_true, if_false, Int.toNat_natCast]
  have fin : ∀ r, r = some (x, next) → wpAny (model P w) A.in1 (match r with
        | some (x, next) => do
          setField (Value.ref I) 0 (rawInt next)
          setField (Value.ref I) 1 (rawInt (↑i + 1))
          ret x
        | none => do
          setField (Value.ref I) 2 Value.none
          let __do_lift ← newExc (Value.type "StopIteration") []
          raiseNew __do_lift) (fun fin s' => ∃ v, fin = Fin.done (Flow.ret v) ∧ wpAny (model P w) A (pure (some v)) Q E s') (fun e s' => wpAny (model P w) A (do
          let __do_lift ← isInstance e (Value.type "StopIteration")
          if __do_lift = true then pure none else throw e) Q E s') s := fun r hr => by
    subst hr
    dsimp only
    refine wpAny_bind (kh (by decide) hit ?_)
    have Hc := hit.qe (x := rawInt next)
    refine wpAny_bind (kh (by decide) Hc ?_)
    exact wpAny_pure ⟨x, rfl, wpAny_pure (hQ _ Hc.Hb ((Heap.SameBut.update ..).trans (Heap.SameBut.update ..)))⟩
  exact wpAny_bind (o7 hE hd (fun hb => fin _ (h1 hb)) (fun hb => fin _ (h2 hb)))
theorem Ew {I a : Addr} {slot i ep : Nat} {es : Array (Int × Value)} {t : SetTable} {Q : Option Value → Shared → Prop} (hh : A.handled = none) (hit : d8 s.heap I a (.int slot 0) i es.size ep) (hE : jr P w s.heap a es ep t)
    (hd : w.params.followText "set-order" = false → (!t.plain && decide (es.size > 1)) = false)
    (h1 : w.params.followText "set-order" = true → (pickOrder (w.params.setOrder a ep) es)[i]?.map (fun e => (e.2, slot)) = none)
    (h2 : w.params.followText "set-order" = false → (match es[SetTable.below t.place slot]?, t.place[SetTable.below t.place slot]? with | some (_, x), some j => some (x, j + 1) | _, _ => none) = none)
    (hQ : ∀ h', (∀ b o, b ≠ I → s.heap.get? b = some o → h'.get? b = some o) → Q none { s with heap := h' }) : wpAny (model P w) A (pyNext (.ref I)) Q E s := by
  obtain ⟨o, ho, hc, jJ⟩ := id hit
  obtain ⟨oa, qZ, BZ, q9⟩ := hE.at_
  unfold pyNext
  refine wpAny_bind (wpAny_attempt (wpAny_callSpecial?_slot (name := Str.ofString "__next__") hit.typeIs cu (wpAny_call_entry cu hit.typeIs iM ?_ (iN _))))
  unfold Builtin.«set_iterator.__next__»
  refine wpAny_bind (m := slotArgs "__next__" 0 _) (wpAny_pure ?_)
  dsimp only
  refine wpAny_bind (wpAny_fieldsOf ho jJ ?_)
  dsimp only
  refine wpAny_bind (wpAny_setEntries_of qZ q9 hE.fits ?_)
  simp only [bne_self_eq_false, Bool.false_eq_true, if_false, Int.toNat_natCast]
  have fin : ∀ r : Option (Value × Nat), r = none → wpAny (model P w) A.in1 (match r with
        | some (x, next) => do
          setField (Value.ref I) 0 (rawInt next)
          setField (Value.ref I) 1 (rawInt (↑i + 1))
          ret x
        | none => do
          setField (Value.ref I) 2 Value.none
          let __do_lift ← newExc (Value.type "StopIteration") []
          raiseNew __do_lift) (fun fin s' => ∃ v, fin = Fin.done (Flow.ret v) ∧ wpAny (model P w) A (pure (some v)) Q E s') (fun e s' => wpAny (model P w) A (do
          let __do_lift ← isInstance e (Value.type "StopIteration")
          if __do_lift = true then pure none else throw e) Q E s') s := fun r hr => by
    subst hr
    dsimp only
    refine wpAny_bind (kh (by decide) hit ?_)
    exact wd hh fun e h' _ k hT => tQ hT (hQ h' fun b o hb q => k b o ((Heap.get?_update_other _ _ (Ne.symm hb)).trans q))
  exact wpAny_bind (o7 hE hd (fun hb => fin _ (h1 hb)) (fun hb => fin _ (h2 hb)))
theorem Ez {I a T : Addr} {i ep j : Nat} {es : Array (Int × Value)} {t : SetTable} {ps : List Nat} {x : Int × Value} {Q : Option Value → Shared → Prop} (hit : d8 s.heap I a (.ref T) i es.size ep) (hE : jr P w s.heap a es ep t)
    (hT : s.heap.IsTuple T (ps.map fun (i : Nat) => rawInt i).toArray) (hj : ps[i]? = some j) (hx : es[j]? = some x)
    (hQ : ∀ h', d8 h' I a (.ref T) (i + 1) es.size ep → Heap.SameBut I s.heap h' → Q (some x.2) { s with heap := h' }) : wpAny (model P w) A (pyNext (.ref I)) Q E s := by
  obtain ⟨o, ho, hc, jJ⟩ := id hit
  obtain ⟨oa, qZ, BZ, q9⟩ := hE.at_
  unfold pyNext
  refine wpAny_bind (wpAny_attempt (wpAny_callSpecial?_slot (name := Str.ofString "__next__") hit.typeIs cu (wpAny_call_entry cu hit.typeIs iM ?_ (iN _))))
  unfold Builtin.«set_iterator.__next__»
  refine wpAny_bind (m := slotArgs "__next__" 0 _) (wpAny_pure ?_)
  dsimp only
  refine wpAny_bind (wpAny_fieldsOf ho jJ ?_)
  dsimp only
  refine wpAny_bind (wpAny_setEntries_of qZ q9 hE.fits ?_)
  simp only [bne_self_eq_false, Bool.false_eq_true, if_false, Int.toNat_natCast]
  obtain ⟨ot, Hd, _, nt, nS⟩ := hT
  refine wpAny_bind (wpAny_seqItems Hd nS ?_)
  have e : (ps.map fun (i : Nat) => rawInt i).toArray[i]? = some (rawInt j) := by simp [hj]
  dsimp only
  rw [e]
  show wpAny _ _ (setNextDrawn a (Int.toNat (j : Int)) ep >>= _) _ _ s
  rw [Int.toNat_natCast]
  refine wpAny_bind ?_
  unfold setNextDrawn
  refine wpAny_bind (wpAny_setState_of qZ q9 hE.fits ?_)
  simp only [bne_self_eq_false, Bool.false_eq_true, if_false, hx]
  refine wpAny_pure ?_
  refine wpAny_bind (kh (by decide) hit ?_)
  exact wpAny_pure ⟨x.2, rfl, wpAny_pure (hQ _ hit.Hb (Heap.SameBut.update ..))⟩
theorem EA {I a T : Addr} {i ep : Nat} {es : Array (Int × Value)} {t : SetTable} {ps : List Nat} {Q : Option Value → Shared → Prop} (hh : A.handled = none) (hit : d8 s.heap I a (.ref T) i es.size ep) (hE : jr P w s.heap a es ep t)
    (hT : s.heap.IsTuple T (ps.map fun (i : Nat) => rawInt i).toArray) (hj : ps.length ≤ i)
    (hQ : ∀ h', (∀ b o, b ≠ I → s.heap.get? b = some o → h'.get? b = some o) → Q none { s with heap := h' }) : wpAny (model P w) A (pyNext (.ref I)) Q E s := by
  obtain ⟨o, ho, hc, jJ⟩ := id hit
  obtain ⟨oa, qZ, BZ, q9⟩ := hE.at_
  unfold pyNext
  refine wpAny_bind (wpAny_attempt (wpAny_callSpecial?_slot (name := Str.ofString "__next__") hit.typeIs cu (wpAny_call_entry cu hit.typeIs iM ?_ (iN _))))
  unfold Builtin.«set_iterator.__next__»
  refine wpAny_bind (m := slotArgs "__next__" 0 _) (wpAny_pure ?_)
  dsimp only
  refine wpAny_bind (wpAny_fieldsOf ho jJ ?_)
  dsimp only
  refine wpAny_bind (wpAny_setEntries_of qZ q9 hE.fits ?_)
  simp only [bne_self_eq_false, Bool.false_eq_true, if_false, Int.toNat_natCast]
  obtain ⟨ot, Hd, _, nt, nS⟩ := hT
  refine wpAny_bind (wpAny_seqItems Hd nS ?_)
  have e : (ps.map fun (i : Nat) => rawInt i).toArray[i]? = none := by simp [hj]
  dsimp only
  rw [e]
  dsimp only
  refine wpAny_bind (kh (by decide) hit ?_)
  refine wpAny_bind (kh (by decide) (hit.qe (x := rawInt 0)) ?_)
  exact wd hh fun e h' _ k hT => tQ hT (hQ h' fun b o hb q => k b o ((Heap.get?_update_other _ _ (Ne.symm hb)).trans ((Heap.get?_update_other _ _ (Ne.symm hb)).trans q)))
end
theorem d8.cp {h h' : Heap} {I a : Addr} {first : Value} {i n ep : Nat} (x : d8 h I a first i n ep) (k : ∀ o, h.get? I = some o → h'.get? I = some o) : d8 h' I a first i n ep := let ⟨o, ho, r⟩ := x; ⟨o, k o ho, r⟩
theorem jr.cp {P : Program} {w : World} {h h' : Heap} {a : Addr} {es : Array (Int × Value)} {ep : Nat} {t : SetTable} (x : jr P w h a es ep t) (k : ∀ o, h.get? a = some o → h'.get? a = some o) : jr P w h' a es ep t :=
  ⟨let ⟨o, ho, r⟩ := x.at_; ⟨o, k o ho, r⟩, x.fits, x.tab⟩
theorem xx {xs : Array Nat} (h : kf xs) {i : Nat} (hi : i < xs.size) : SetTable.below xs (xs[i] + 1) = i + 1 := by
  obtain ⟨b0, b1, b2⟩ := n6 (xs[i] + 1) h
  generalize SetTable.below xs (xs[i] + 1) = p at *
  have h1 : i < p := by
    refine Nat.lt_of_not_le fun hp => ?_
    have := b2 i hi hp
    omega
  refine Nat.le_antisymm (Nat.le_of_not_lt fun hp => ?_) h1
  have KY : i + 1 < xs.size := by omega
  have q := b1 (i + 1) KY hp
  have q2 := oY h (show i < i + 1 by omega) KY
  omega
theorem xA {xs : Array Nat} (h : kf xs) : SetTable.below xs 0 = 0 := by
  obtain ⟨b0, b1, b2⟩ := n6 0 h
  generalize SetTable.below xs 0 = p at *
  by_cases hp : p = 0
  · exact hp
  · have := b1 0 (by omega) (by omega)
    omega
section
variable {P : Program} {w : World} {A : Around} {E : Value → Shared → Prop} {s : Shared}
theorem si_self {I a : Addr} {first : Value} {i n ep : Nat} {Q : Value → Shared → Prop} (hit : d8 s.heap I a first i n ep) (h : Q (.ref I) s) : wpAny (model P w) A (pyIter (.ref I)) Q E s := by
  refine wpAny_pyIter_slot hit.typeIs o6 (wpAny_call_entry o6 hit.typeIs xt ?_ (xu _))
  show wpAny _ _ (ret (.ref I)) _ _ s
  exact wpAny_pure ⟨_, rfl, "set_iterator", _, hit.typeIs, cu.lookup, h⟩
theorem tR {es : List (Int × Value)} (h : ElemsOf (intKind P w) es) {e : Int × Value} (he : e ∈ es) : ∃ t, e.2 = .int (dz e) t := by
  obtain ⟨⟨k', nQ, _⟩, _⟩ := h e he
  obtain ⟨t, e2⟩ := Value.isInt_shape (k := k') (v := e.2) nQ
  exact ⟨t, by unfold dz; rw [e2]⟩
noncomputable abbrev zA (xs : List Int) : Nat → Value → Prop := fun i v => ∃ m t, xs[i]? = some m ∧ v = .int m t
noncomputable def eZ (w : World) (a : Addr) (ep : Nat) (es : Array (Int × Value)) : List (Int × Value) := if w.params.followText "set-order" = true then (pickOrder (w.params.setOrder a ep) es).toList else es.toList
theorem iO (w : World) (a : Addr) (ep : Nat) (es : Array (Int × Value)) : (eZ w a ep es).Perm es.toList := by
  unfold eZ
  split
  · exact qY _ _
  · exact .refl _
theorem B1 {I a : Addr} {es : Array (Int × Value)} {ep : Nat} {t : SetTable} (hh : A.handled = none) (ji : a ≠ I) (jo : ElemsOf (intKind P w) es.toList) (hd : w.params.followText "set-order" = false → (!t.plain && decide (es.size > 1)) = false) :
    WalksS P w A I [I, a] [I] (fun a b => b = a) ((eZ w a ep es).map dz).length (zA ((eZ w a ep es).map dz))
      (fun i s => jr P w s.heap a es ep t ∧ ∃ slot : Nat, d8 s.heap I a (.int slot 0) i es.size ep ∧ (w.params.followText "set-order" = false → SetTable.below t.place slot = i)) where
  sub := fun b hb => by simp at hb; simp [hb]
  grefl := fun _ => rfl
  gtrans := fun _ _ _ h1 h2 => h2.trans h1
  frame := fun i s h' _ st _ hk => ⟨st.1.cp fun o e => hk a (by simp) o e, let ⟨slot, h1, h2⟩ := st.2; ⟨slot, h1.cp fun o e => hk I (by simp) o e, h2⟩⟩
  item := fun i s Q E hi st hQ => by
    obtain ⟨hE, slot, hit, hb⟩ := st
    have hl : i < (eZ w a ep es).length := by simpa using hi
    have Ha : i < es.size := by rw [← Array.length_toList, ← (iO w a ep es).length_eq]; exact hl
    obtain ⟨tk, he⟩ := tR (P := P) (w := w) jo ((iO w a ep es).mem_iff.mp (List.getElem_mem hl))
    have eQ : i < t.place.size := by
      have := hE.fits
      simp only [SetTable.fits, Bool.and_eq_true, beq_iff_eq] at this
      rw [this.1]; exact Ha
    refine Eu (next := if w.params.followText "set-order" = true then slot else t.place[i] + 1) (x := ((eZ w a ep es)[i]).2) hit hE hd (fun fG => ?_) (fun fG => ?_) (fun h' B2 hs => hQ _ _ ⟨_, tk, by rw [List.getElem?_map, List.getElem?_eq_getElem hl]; rfl, he⟩ ⟨hE.cp fun o e => by rw [hs.2 a ji]; exact e, _, B2, fun fG => ?_⟩ ⟨fun b o hb e => by rw [hs.2 b (fun z => hb (by simp [z]))]; exact e, rfl, rfl, rfl, Nat.le_refl _⟩)
    · rw [if_pos fG]
      have e1 : eZ w a ep es = (pickOrder (w.params.setOrder a ep) es).toList := by unfold eZ; rw [if_pos fG]
      have e2 : (pickOrder (w.params.setOrder a ep) es)[i]? = some (eZ w a ep es)[i] := by
        rw [← Array.getElem?_toList, ← e1]
        exact List.getElem?_eq_getElem hl
      rw [e2]
      rfl
    · rw [if_neg (by rw [fG]; decide), hb fG, Array.getElem?_eq_getElem Ha, Array.getElem?_eq_getElem eQ]
      have e1 : eZ w a ep es = es.toList := by unfold eZ; rw [if_neg (by rw [fG]; decide)]
      have e2 : (eZ w a ep es)[i] = es[i] := by simp [e1]
      rw [e2]
    · rw [if_neg (by rw [fG]; decide)]
      exact xx hE.tab.ris eQ
  done := fun s Q E st hQ => by
    obtain ⟨hE, slot, hit, hb⟩ := st
    have hl : ((eZ w a ep es).map dz).length = es.size := by rw [List.length_map, (iO w a ep es).length_eq, Array.length_toList]
    rw [hl] at hit hb
    refine Ew hh hit hE hd (fun fG => ?_) (fun fG => ?_) (fun h' k => hQ _ ⟨fun b o hb e => k b o (fun z => hb (by simp [z])) e, rfl, rfl, rfl, Nat.le_refl _⟩)
    · have e1 : (pickOrder (w.params.setOrder a ep) es)[es.size]? = none := by
        refine Array.getElem?_eq_none ?_
        rw [← Array.length_toList, (qY _ es).length_eq, Array.length_toList]
        exact Nat.le_refl _
      rw [e1]
      rfl
    · rw [hb fG, Array.getElem?_eq_none (Nat.le_refl _)]
  self := fun i s Q E st hQ => let ⟨_, slot, hit, _⟩ := st; si_self hit hQ
theorem xB {I a T : Addr} {es : Array (Int × Value)} {ep : Nat} {t : SetTable} {ps : List Nat} (hh : A.handled = none) (ji : a ≠ I) (MR : T ≠ I) (jo : ElemsOf (intKind P w) es.toList) (zB : ∀ j ∈ ps, j < es.size) (eQ : ps.length = es.size) :
    WalksS P w A I [I, a, T] [I] (fun a b => b = a) (ps.map fun j => dz (es.getD j (0, .none))).length (zA (ps.map fun j => dz (es.getD j (0, .none))))
      (fun i s => jr P w s.heap a es ep t ∧ s.heap.IsTuple T (ps.map fun (i : Nat) => rawInt i).toArray ∧ d8 s.heap I a (.ref T) i es.size ep) where
  sub := fun b hb => by simp at hb; simp [hb]
  grefl := fun _ => rfl
  gtrans := fun _ _ _ h1 h2 => h2.trans h1
  frame := fun i s h' _ st _ hk => ⟨st.1.cp fun o e => hk a (by simp) o e, st.2.1.at fun o e => hk T (by simp) o e, st.2.2.cp fun o e => hk I (by simp) o e⟩
  item := fun i s Q E hi st hQ => by
    obtain ⟨hE, hT, hit⟩ := st
    have hl : i < ps.length := by simpa using hi
    have hj := zB _ (List.getElem_mem hl)
    have hx : es[ps[i]]? = some es[ps[i]] := Array.getElem?_eq_getElem hj
    have hg : es.getD ps[i] (0, .none) = es[ps[i]] := by simp [Array.getD, hj]
    obtain ⟨tk, he⟩ := tR (P := P) (w := w) jo (show es[ps[i]] ∈ es.toList by simp)
    refine Ez hit hE hT (List.getElem?_eq_getElem hl) hx fun h' B2 hs => hQ _ _ ⟨_, tk, by rw [List.getElem?_map, List.getElem?_eq_getElem hl]; rfl, by dsimp only; rw [hg]; exact he⟩ ⟨hE.cp fun o e => by rw [hs.2 a ji]; exact e, hT.at fun o e => by rw [hs.2 T MR]; exact e, B2⟩ ⟨fun b o hb e => by rw [hs.2 b (fun z => hb (by simp [z]))]; exact e, rfl, rfl, rfl, Nat.le_refl _⟩
  done := fun s Q E st hQ => by
    obtain ⟨hE, hT, hit⟩ := st
    have hl : (ps.map fun j => dz (es.getD j (0, .none))).length = ps.length := List.length_map _
    rw [hl] at hit
    exact EA hh hit hE hT (Nat.le_refl _) fun h' k => hQ _ ⟨fun b o hb e => k b o (fun z => hb (by simp [z])) e, rfl, rfl, rfl, Nat.le_refl _⟩
  self := fun i s Q E st hQ => si_self st.2.2 hQ
theorem xC {a : Addr} {ns : List Int} {Q : Value → Shared → Prop} (hS : bQ P w s.heap a ns)
    (hQ : ∀ (I : Addr) (h' : Heap) (d' : Drawn) (xs : List Int) (fp : List Addr) (St : Nat → Shared → Prop), xs.Perm ns → (∀ b o, s.heap.get? b = some o → h'.get? b = some o) → s.heap.objs.size ≤ I → (∀ b ∈ fp, b = a ∨ s.heap.objs.size ≤ b) →
      (∀ A' : Around, A'.handled = none → WalksS P w A' I fp [I] (fun a b => b = a) xs.length (zA xs) St) → St 0 { s with heap := h', drawn := d' } → Q (.ref I) { s with heap := h', drawn := d' }) : wpAny (model P w) A (pyIter (.ref a)) Q E s := by
  have KZ := hS.typeIs (h := s.heap)
  obtain ⟨o, es, ep, t, ho, hex, hd, jo, hp, hn, hb, hf, ht⟩ := hS
  have hE : jr P w s.heap a es ep t := ⟨⟨o, ho, hex, hd⟩, hf, ht⟩
  have bo := Heap.lt_size ho
  refine wpAny_pyIter_slot KZ F.slot_set_iter (wpAny_call_entry F.slot_set_iter KZ ve ?_ (F.args_set_iter_1 _))
  unfold Builtin.«frozenset.__iter__»
  refine wpAny_bind (m := Builtin.Frozenset.slot0 "__iter__" _) (wpAny_pure ?_)
  unfold Builtin.Frozenset.sizeOf
  refine wpAny_bind (wpAny_bind (wpAny_setEntries_of ho hd hf (wpAny_pure ?_)))
  refine wpAny_bind ?_
  unfold setDrawn
  refine wpAny_bind (wpAny_setState_of ho hd hf ?_)
  dsimp only
  refine wpAny_bind (mx ?_)
  refine wpAny_pure ?_
  by_cases DE : (!w.params.followText "set-order" && (!t.plain && decide (es.size > 1))) = true
  · show wpAny _ _ (if (!w.params.followText "set-order" && (!t.plain && decide (es.size > 1))) = true then _ else _) _ _ s
    rw [if_pos DE]
    refine wpAny_bind (mw _ _ (by simp) fun ps d zB => ?_)
    have eQ : ps.length = es.size := by rw [zB.length_eq, List.length_range]
    refine wpAny_bind (wpAny_newTuple ?_ (by rw [List.length_map, eQ]; exact fits_of_scanBound hb))
    refine wpAny_bind (wpAny_setEpoch_of (o := o) (Heap.get?_push_of_some _ ho) hd hf ?_)
    unfold newFields
    refine wpAny_bind (wpAny_newObj_type ?_ (by size_fits))
    have hsz : ∀ u : Obj, (s.heap.push u).objs.size = s.heap.objs.size + 1 := fun u => Heap.size_push _ _
    have hit : d8 ((s.heap.push { cls := .type "tuple", data := .seq (ps.map fun (i : Nat) => rawInt i).toArray }).push { cls := .type "set_iterator", data := .fields #[.ref s.heap.objs.size, .int (0 : Nat) 0, .ref a, .int es.size 0, .int ep 0] }) (s.heap.push { cls := .type "tuple", data := .seq (ps.map fun (i : Nat) => rawInt i).toArray }).objs.size a (.ref s.heap.objs.size) 0 es.size ep := ⟨_, Heap.get?_push_size _ rfl, rfl, rfl⟩
    have Oi : (ps.map fun j => dz (es.getD j (0, .none))).Perm ns := by
      refine ((zB.map _).trans ?_).trans hp
      have : (List.range es.size).map (fun j => dz (es.getD j (0, .none))) = es.toList.map dz := by
        refine List.ext_getElem (by simp) fun n h1 h2 => ?_
        have sP : n < es.size := by simpa using h1
        simp [Array.getD, sP]
      rw [this]
    refine wpAny_pure ⟨_, rfl, "set_iterator", _, d8.typeIs (s := { s with heap := _, drawn := d }) hit, cu.lookup, ?_⟩
    refine hQ _ _ d _ [(s.heap.push { cls := .type "tuple", data := .seq (ps.map fun (i : Nat) => rawInt i).toArray }).objs.size, a, s.heap.objs.size] _ Oi (fun b o e => Heap.get?_push_of_some _ (Heap.get?_push_of_some _ e)) (by rw [hsz]; exact Nat.le_succ _) (fun b hb => ?_) (fun A' hA => xB (t := t) (ep := ep) hA ?_ ?_ jo (fun j hj => by simpa using zB.mem_iff.mp hj) eQ) ⟨hE.cp fun o e => Heap.get?_push_of_some _ (Heap.get?_push_of_some _ e), ⟨_, Heap.get?_push_of_some _ (Heap.get?_push_size _ rfl), rfl, _, rfl⟩, hit⟩
    · simp only [List.mem_cons, List.not_mem_nil, or_false] at hb
      rcases hb with rfl | rfl | rfl
      · exact .inr (by rw [hsz]; exact Nat.le_succ _)
      · exact .inl rfl
      · exact .inr (Nat.le_refl _)
    · rw [hsz]; exact Nat.ne_of_lt (Nat.lt_succ_of_lt bo)
    · rw [hsz]; exact Nat.ne_of_lt (Nat.lt_succ_self _)
  · show wpAny _ _ (if (!w.params.followText "set-order" && (!t.plain && decide (es.size > 1))) = true then _ else _) _ _ s
    rw [if_neg DE]
    refine wpAny_bind (wpAny_pure (wpAny_bind (wpAny_setEpoch_of ho hd hf ?_)))
    unfold newFields
    refine wpAny_bind (wpAny_newObj_type ?_ (by size_fits))
    have hit : d8 (s.heap.push { cls := .type "set_iterator", data := .fields #[.int (0 : Nat) 0, .int (0 : Nat) 0, .ref a, .int es.size 0, .int ep 0] }) s.heap.objs.size a (.int (0 : Nat) 0) 0 es.size ep := ⟨_, Heap.get?_push_size _ rfl, rfl, rfl⟩
    refine wpAny_pure ⟨_, rfl, "set_iterator", _, d8.typeIs (s := { s with heap := _ }) hit, cu.lookup, ?_⟩
    refine hQ _ _ s.drawn _ [s.heap.objs.size, a] _ (((iO w a ep es).map dz).trans hp) (fun b o e => Heap.get?_push_of_some _ e) (Nat.le_refl _) (fun b hb => ?_) (fun A' hA => B1 (t := t) (ep := ep) hA (Nat.ne_of_lt bo) jo fun hb => ?_) ⟨hE.cp fun o e => Heap.get?_push_of_some _ e, 0, hit, fun _ => xA ht.ris⟩
    · simp only [List.mem_cons, List.not_mem_nil, or_false] at hb
      rcases hb with rfl | rfl
      · exact .inr (Nat.le_refl _)
      · exact .inl rfl
    · rw [hb] at DE
      simpa using DE
end
section
variable {P : Program} {w : World} {A : Around} {E : Value → Shared → Prop} {s : Shared}
theorem vh {a : Addr} {Q : Bool → Shared → Prop} (hT : s.TypeIs (.ref a) "set") (h : Q false s) : wpAny (model P w) A (Builtin.List.listLengthHint (.ref a)) Q E s := by
  unfold Builtin.List.listLengthHint
  refine wpAny_bind (wpAny_specialOf hT F.slot_set_len.lookup ?_)
  have e : splitId "set.__len__" = some ("set", "__len__") := by kernel_rfl
  dsimp only
  rw [e]
  dsimp only
  refine wpAny_bind (wpAny_isInstance hT sub_set_self ?_)
  simp only [Bool.not_true, Bool.false_eq_true, if_false]
  show wpAny _ _ (if _ = true then _ else _) _ _ s
  rw [if_pos (by kernel_rfl)]
  exact wpAny_bind (wpAny_typeOf hT (wpAny_pure h))
theorem ints_of {xs : List Int} {acc : Array Value} (h : ItemsOf (zA xs) acc xs.length) : IntsAre acc.toList xs := by
  obtain ⟨hs, hi⟩ := h
  have : ∀ (vs : List Value) (xs : List Int), vs.length = xs.length → (∀ (j : Nat) (v : Value), vs[j]? = some v → zA xs j v) → IntsAre vs xs := by
    intro vs
    induction vs with
    | nil => intro xs hl _; cases xs with | nil => exact .nil | cons x xs => simp at hl
    | cons v vs ih =>
      intro xs hl hg
      cases xs with
      | nil => simp at hl
      | cons x xs =>
        obtain ⟨m, t, e1, rfl⟩ := hg 0 v rfl
        have e2 : x = m := by simpa using e1
        subst e2
        refine .cons _ _ (ih xs (by simpa using hl) fun j u hu => ?_)
        obtain ⟨m', t', e3, e4⟩ := hg (j + 1) u (by simpa using hu)
        exact ⟨m', t', by simpa using e3, e4⟩
  exact this acc.toList xs (by simpa using hs) fun j v hv => hi j v (by rw [← Array.getElem?_toList]; exact hv)
theorem vi {a : Addr} {ns : List Int} {QL : List Value → Shared → Prop} (hh : A.handled = none) (hS : bQ P w s.heap a ns) (hz : ns.length ≤ sizeLine)
    (hQ : ∀ us xs h' d' tk, IntsAre us xs → xs.Perm ns → (∀ b o, s.heap.get? b = some o → h'.get? b = some o) → QL us { s with heap := h', drawn := d', toks := tk }) : wpAny (model P w) A (collect (.ref a)) QL E s := by
  have bo : a < s.heap.objs.size := let ⟨_, _, _, _, ho, _⟩ := hS; Heap.lt_size ho
  have K0 : s.heap.objs.size ≠ a := Nat.ne_of_gt bo
  unfold collect
  refine wpAny_bind (wpAny_runValue (codeAny_builtin F.entry_proto_collect ?_))
  rw [Around.under_plainId F.plain_proto_collect _]
  show wpAny _ A.in1 (newList [] >>= fun l => again (.builtin "list.__iadd__" ⟨[l, .ref a], []⟩)) _ _ s
  refine wpAny_bind (wpAny_newObj_type ?_)
  refine wpAny_pure ⟨plainId_quiet F.plain_list_iadd _, codeAny_builtin F.entry_list_iadd ?_⟩
  rw [Around.under_plainId F.plain_list_iadd _]
  have zu : bQ P w (s.heap.push { cls := .type "list", data := .seq ([] : List Value).toArray }) a ns := hS.cp fun o e => Heap.get?_push_of_some _ e
  have T1 : Shared.TypeIs { s with heap := s.heap.push { cls := .type "list", data := .seq ([] : List Value).toArray } } (.ref a) "set" := bQ.typeIs (P := P) (w := w) (h := s.heap) (s := { s with heap := _ }) zu
  show wpAny _ A.in1 (Builtin.List.listExtendWith (.ref s.heap.objs.size) (.ref a) (.ref s.heap.objs.size)) _ _ _
  unfold Builtin.List.listExtendWith
  refine wpAny_bind (wpAny_typeOf T1 ?_)
  have h1 : Builtin.List.listSameRef (.ref s.heap.objs.size) (.ref a) = false := by simp [Builtin.List.listSameRef, K0]
  have h2 : (Value.type "set" == Value.type "list") = false := by decide
  have h3 : (Value.type "set" == Value.type "tuple") = false := by decide
  simp only [h1, h2, h3, Bool.or_false, Bool.false_eq_true, if_false]
  refine wpAny_bind (xC (s := { s with heap := s.heap.push { cls := .type "list", data := .seq ([] : List Value).toArray } }) zu ?_)
  intro I h' d' xs fp St hp hk hI Oj hW jO
  have T2 : Shared.TypeIs { s with heap := h', drawn := d' } (.ref a) "set" := bQ.typeIs (P := P) (w := w) (h := s.heap) (s := { s with heap := _, drawn := d' }) (zu.cp fun o e => hk a o e)
  refine wpAny_bind (wpAny_holding (vh T2 ?_))
  show wpAny _ A.in1 (if _ = true then _ else _) _ _ _
  rw [if_pos (by kernel_rfl)]
  show wpAny _ A.in1 (rule "list.extend.makes-room" >>= fun _ => Builtin.List.listTouch (.ref s.heap.objs.size) >>= fun _ =>
    again (.builtin "list.extend.loop" ⟨[.ref s.heap.objs.size, .ref I, .ref s.heap.objs.size], []⟩)) _ _ _
  refine wpAny_bind (wpAny_rule ?_)
  have nB : h'.get? s.heap.objs.size = some { cls := .type "list", data := .seq ([] : List Value).toArray } := hk _ _ (Heap.get?_push_size _ rfl)
  refine wpAny_bind ?_
  show wpAny _ A.in1 (updateSeq s.heap.objs.size (·.push .none) >>= fun _ => updateSeq s.heap.objs.size (·.pop)) _ _ _
  refine wpAny_bind (wpAny_updateSeq nB rfl ?_)
  have sy := Heap.get?_update_self (Obj.mapSeq (·.push Value.none)) nB rfl
  refine wpAny_updateSeq sy rfl ?_
  have JE := Heap.get?_update_self (Obj.mapSeq (·.pop)) sy rfl
  have K1 : ∀ b o, b ≠ s.heap.objs.size → h'.get? b = some o → ((h'.update s.heap.objs.size (Obj.mapSeq (·.push Value.none))).update s.heap.objs.size (Obj.mapSeq (·.pop))).get? b = some o :=
    fun b o hb e => (Heap.get?_update_other _ _ (Ne.symm hb)).trans ((Heap.get?_update_other _ _ (Ne.symm hb)).trans e)
  have He : (s.heap.push { cls := .type "list", data := .seq ([] : List Value).toArray }).objs.size = s.heap.objs.size + 1 := Heap.size_push _ _
  have tP : s.heap.objs.size ∉ fp := fun hm => by
    rcases Oj _ hm with z | z
    · exact K0 z
    · have z' : s.heap.objs.size + 1 ≤ s.heap.objs.size := by rw [← He]; exact z
      exact absurd z' (Nat.not_succ_le_self _)
  have W := hW A.in1.in1 (by simp [hh])
  have hl : xs.length ≤ sizeLine := by rw [hp.length_eq]; exact hz
  refine wpAny_pure ⟨plainId_quiet F.plain_extend_loop _, codeAny_extend_loopS (W.of_in1) hl _ tP _ xs.length 0 _ _ _ rfl (Nat.zero_le _) (W.frame 0 ({ s with heap := h', drawn := d' } : Shared) _ s.toks jO (Nat.le_refl _) fun b hb o e => K1 b o (fun h => tP (h ▸ hb)) e) JE (ItemsOf.nil _) fun s' mj c' hm h8 js => ?_⟩
  show wpAny _ A (load s.heap.objs.size >>= _) _ _ s'
  refine wpAny_bind (wpAny_load h8 ?_)
  refine wpAny_pure ?_
  obtain ⟨h2, g2, d2, Ol, os2⟩ := s'
  have eg : g2 = s.gens := hm.gens
  have ed : d2 = d' := hm.drawn
  have eo : os2 = s.os := hm.os
  subst eg; subst ed; subst eo
  refine hQ _ xs h2 _ Ol (ints_of js) hp fun b o e => hm.heap b o ?_ (K1 b o (Nat.ne_of_lt (Heap.lt_size e)) (hk b o (Heap.get?_push_of_some _ e)))
  have hb : b < s.heap.objs.size := Heap.lt_size e
  simp only [List.mem_cons, List.not_mem_nil, or_false, not_or]
  refine ⟨Nat.ne_of_lt hb, fun z => ?_⟩
  have z' : s.heap.objs.size + 1 ≤ b := by rw [← He, z]; exact hI
  exact absurd (Nat.lt_of_lt_of_le (Nat.lt_succ_of_lt hb) z') (Nat.lt_irrefl _)
end
noncomputable def sortI (ns : List Int) : List Int := ns.mergeSort fun a b => decide (a ≤ b)
theorem sortI_perm (ns : List Int) : (sortI ns).Perm ns := List.mergeSort_perm _ _
theorem tS (ns : List Int) : (sortI ns).Pairwise (· ≤ ·) := by
  have := List.pairwise_mergeSort (le := fun a b : Int => decide (a ≤ b)) (fun a b c h1 h2 => by simp only [decide_eq_true_eq] at *; omega) (fun a b => by simp only [Bool.or_eq_true, decide_eq_true_eq]; omega) ns
  exact this.imp fun h => by simpa using h
theorem vj {a b : List Int} (p : a.Perm b) (ha : a.Pairwise (· ≤ ·)) (hb : b.Pairwise (· ≤ ·)) : a = b := List.Perm.eq_of_pairwise (le := (· ≤ ·)) (fun x y _ _ h1 h2 => Int.le_antisymm h1 h2) ha hb p
theorem B3 {ms ns : List Int} (p : ms.Perm ns) (h : ms.Pairwise (· ≤ ·)) : ms = sortI ns := vj (p.trans (sortI_perm ns).symm) h (tS ns)
theorem xD : ∀ {ns : List Int} {us : List Value}, Vals (ns.map V.int) us → IntsAre us ns
  | [], _, .nil => .nil
  | n :: ns, _, .cons r t => by
    obtain ⟨k, rfl⟩ := r
    exact .cons _ _ (xD t)
theorem my : ∀ {ns : List Int} {us : List Value}, IntsAre us ns → Vals (ns.map V.int) us
  | _, _, .nil => .nil
  | _, _, .cons n t r => .cons ⟨t, rfl⟩ (my r)
section
variable {P : Program} {w : World} {A : Around} {E : Value → Shared → Prop} {s : Shared}
theorem nT {T : String} {l : Addr} {vs : List Value} {Q : List Value → Shared → Prop} {o : Obj} {n : Nat} (ho : s.heap.get? l = some o) (hc : o.cls = .type T) (hd : o.data = .seq vs.toArray n) (hT : T = "list" ∨ T = "tuple")
    (h : ∀ h', (∀ b o, s.heap.get? b = some o → h'.get? b = some o) → Q vs { s with heap := h' }) (hsz : vs.length ≤ sizeLine) : wpAny (model P w) A (collect (.ref l)) Q E s := by
  unfold collect
  refine wpAny_bind (wpAny_runValue (codeAny_builtin F.entry_proto_collect ?_))
  rw [Around.under_plainId F.plain_proto_collect _]
  show wpAny _ A.in1 (newList [] >>= fun l' => again (.builtin "list.__iadd__" ⟨[l', .ref l], []⟩)) _ _ s
  refine wpAny_bind (wpAny_newList (wpAny_pure ⟨plainId_quiet F.plain_list_iadd _, codeAny_builtin F.entry_list_iadd ?_⟩))
  rw [Around.under_plainId F.plain_list_iadd _]
  show wpAny _ A.in1 (Builtin.List.listExtendWith (.ref s.heap.objs.size) (.ref l) (.ref s.heap.objs.size)) _ _ { s with heap := s.heap.push (seqObj "list" #[] 0) }
  unfold Builtin.List.listExtendWith
  have fB : (s.heap.push (seqObj "list" #[] 0)).get? l = some o := Heap.get?_push_of_some _ ho
  refine wpAny_bind (wpAny_typeOf (T := T) ⟨o, fB, hc⟩ ?_)
  rw [if_pos (by rcases hT with rfl | rfl <;> simp)]
  refine wpAny_bind (listItems_at fB hd ?_)
  refine wpAny_bind (listItems_at (xs := #[]) (n := 0) (Heap.get?_push_size _ rfl) rfl ?_)
  rw [if_neg (by simp)]
  refine wpAny_bind (listUpdate_at (xs := #[]) (n := 0) (Heap.get?_push_size _ rfl) rfl ?_ (Nat.zero_le _) (by show (#[] ++ vs.toArray).size ≤ sizeLine + 1; simp only [Array.size_append, List.size_toArray, List.length_nil]; omega))
  refine wpAny_pure ?_
  show wpAny (model P w) A (load s.heap.objs.size >>= _) Q E _
  refine wpAny_bind (wpAny_load (get?_update_seq (Heap.get?_push_size _ rfl) _) ?_)
  show wpAny _ _ (pure ((#[] : Array Value) ++ vs.toArray).toList) Q E _
  rw [show ((#[] : Array Value) ++ vs.toArray).toList = vs by simp]
  exact wpAny_pure (h _ fun b o e => (Heap.get?_update_other _ _ (Nat.ne_of_gt (Heap.lt_size e))).trans (Heap.get?_push_of_some _ e))
theorem xE {a : Value} {ns : List Int} {Q : Value → Shared → Prop} (MS : ∀ QL : List Value → Shared → Prop, (∀ us xs h' d' tk, IntsAre us xs → xs.Perm ns → (∀ b o, s.heap.get? b = some o → h'.get? b = some o) → QL us { s with heap := h', drawn := d', toks := tk }) → wpAny (model P w) A.in1 (collect a) QL E s) (Hf : ns.length < 64)
    (h : ∀ (h1 h' : Heap) d' tk (us : List Value) e, IntsAre us (sortI ns) → (∀ b o, s.heap.get? b = some o → h1.get? b = some o) → (∀ b o, h1.get? b = some o → h'.get? b = some o) → h'.get? h1.objs.size = some { cls := .type "list", data := .seq us.toArray e } → Q (.ref h1.objs.size) { s with heap := h', drawn := d', toks := tk }) :
    wpAny (model P w) A (call (.builtin "sorted") [a]) Q E s := by
  refine Calls.call_function_entry kind_sorted plain_sorted entry_sorted (args_sorted1 _) ?_
  unfold Builtin.«sorted»
  refine wpAny_bind (m := checkCount "sorted" 1 1 _) (wpAny_pure ?_)
  refine wpAny_bind (MS _ fun us xs h' d' tk hI hp hk => ?_)
  have Hg : us.length < 64 := by
    have : us.length = xs.length := (my hI).length.symm.trans (List.length_map _)
    rw [this, hp.length_eq]
    exact Hf
  refine wpAny_bind (wpAny_newList ?_ (hsz := Nat.le_trans (Nat.le_of_lt Hg) (by decide)))
  have yE : (h'.push (seqObj "list" us.toArray 0)).get? h'.objs.size = some (seqObj "list" us.toArray 0) := Heap.get?_push_size _ rfl
  refine wpAny_bind (wpAny_holding (wpAny_call_entry slot_list_sort ⟨_, yE, rfl⟩ entry_list_sort (list_sort_tree yE hI Hg fun out Qe a1 a2 a3 => ⟨_, rfl, ?_⟩) (args_list_sort _)))
  refine wpAny_pure ⟨_, rfl, ?_⟩
  obtain ⟨e, he⟩ := sortedHeap_at (out := out) yE
  refine h h' _ d' tk out.toList e (by rw [← B3 (a2.trans hp) a3]; exact a1) hk (fun b o hb => ?_) (by simpa using he)
  have bo := Heap.lt_size hb
  rw [sortedHeap_old (Nat.ne_of_lt bo) (by rw [Heap.size_push]; exact Nat.lt_succ_of_lt bo)]
  exact Heap.get?_push_of_some _ hb
end
theorem o8 {P : Program} {w : World} {h : Heap} {a : Addr} {ns : List Int} (x : bQ P w h a ns) : ∃ o, h.get? a = some o := let ⟨o, _, _, _, e, _⟩ := x; ⟨o, e⟩
theorem qg {P : Program} {w : World} {H : Hp} {h : Heap} {a : Addr} {ns : List Int} (x : bQ P w h a ns) : ObjOk P w H h a (fw P w a ns) := ⟨x, o8 x, fun h1 h2 y k => y.cp k⟩
theorem qh {X : Cx} {pins : List (Addr × Obj)} {σ : St} {H : Hp} {s : Shared} {a : Addr} {ns : List Int} (I : Inv X pins σ H s) (h : H a = some (fw X.prog X.w a ns)) : bQ X.prog X.w s.heap a ns := (I.hok a _ h).1
section
variable {P : Program} {w : World} {A : Around} {E : Value → Shared → Prop} {s : Shared}
theorem EB {Q : Value → Shared → Prop} (h : Q (.ref s.heap.objs.size) { s with heap := s.heap.push (fY w) }) : wpAny (model P w) A (newSet (.type "set")) Q E s := by
  unfold newSet setsByText
  refine wpAny_bind (wpAny_bind (wpAny_askSetting (wpAny_pure ?_)))
  dsimp only
  simp only [newObj]
  exact wpAny_bind (wpAny_alloc (wpAny_pure h))
theorem zD {a : Addr} {ns : List Int} {m : Int} {tk : Tok} {Q : Value → Shared → Prop} (hS : bQ P w s.heap a ns) (kP : ns.length + 1 < scanBound)
    (h : ∀ h' zx, Heap.SameBut a s.heap h' → bQ P w h' a (cF ns m) → Q .none { s with heap := h', toks := zx }) : wpAny (model P w) A (call (.builtin "set.add") [.ref a, .int m tk]) Q E s := by
  refine wpAny_call_entry F.slot_set_add (bQ.typeIs (h := s.heap) hS) F.entry_set_add ?_ (F.args_set_add_2 _ _)
  unfold Builtin.«set.add» Builtin.Frozenset.oneOther
  simp only [List.isEmpty_nil, bind_assoc]
  unfold Builtin.Frozenset.addrOf
  refine wpAny_bind (wpAny_pure ?_)
  try dsimp only
  refine wpAny_bind (wpAny_pure ?_)
  try dsimp only
  refine wpAny_bind (qX hS kP fun h' jM h8 => ?_)
  show wpAny _ _ (ret Value.none) _ _ _
  exact wpAny_pure ⟨_, rfl, h h' _ jM h8⟩
theorem tT (elt target iter : Expr) (ifs : List Expr) (scope : Scope) (pos : Pos) (it acc : Value) (env : Env) :
    compTurn (.SetComp elt [⟨target, iter, ifs, 0⟩] scope pos) 0 it acc env = (do
      standAt iter.pos
      match ← pyNext it with
      | none => pure (.done .next)
      | some v =>
        letOwnedTupleGo target it v
        assign target env v
        let mut ok := true
        for c in ifs do
          if ok then ok ← isTrue c env (eval c env)
        if ok then
          (eval elt env >>= fun v => standAt elt.pos >>= fun _ => call (.builtin "set.add") [acc, v] >>= fun _ => pure ())
        again (.compLoop (.SetComp elt [⟨target, iter, ifs, 0⟩] scope pos) 0 it acc env)) := by rfl
theorem vm {R : Result → Shared → Prop} {elt target iter ifs rest scope pos it acc env}
    (h0 : codeAny (model P w) A (.compLoop (.SetComp elt (⟨target, iter, ifs, 0⟩ :: rest) scope pos) 0 it acc env) R s)
    (h : wpAny (model P w) A (pyIter it) (fun Hh s' => codeAny (model P w) A (.compLoop (.SetComp elt (⟨target, iter, ifs, 0⟩ :: rest) scope pos) 0 Hh acc env) R s')
      (notedBy (model P w) A env fun x s' => R (.error x) s') s) :
    codeAny (model P w) A (.compStart (.SetComp elt (⟨target, iter, ifs, 0⟩ :: rest) scope pos) 0 it acc env) R s := by
  refine codeAny_of_tree ?_
  show wpAny _ _ ((compStart (.SetComp elt (⟨target, iter, ifs, 0⟩ :: rest) scope pos) 0 it acc env).onRaise (fun x => do noteFrame x env; standAt theWindowsPlace)) _ _ s
  refine wpAny_notedAt ?_
  unfold compStart
  show wpAny _ _ (ask >>= _) _ _ s
  refine wpAny_bind (wpAny_askSetting (wpAny_ite ?_))
  split
  · first
      | exact wpAny_bind (wpAny_pure (wpAny_pure (And.intro rfl h0)))
      | exact wpAny_pure (And.intro rfl h0)
  · first
      | exact wpAny_bind (wpAny_rule (wpAny_bind (wpAny_standAt (wpAny_bind (wpAny_mono h (fun Hh s' h' => wpAny_pure (And.intro rfl h')) fun _ _ x => x)))))
      | (refine wpAny_bind (wpAny_rule ?_); show wpAny _ _ (standAt iter.pos >>= _) _ _ s; exact wpAny_bind (wpAny_standAt (wpAny_bind (wpAny_mono h (fun Hh s' h' => wpAny_pure (And.intro rfl h')) fun _ _ x => x))))
end
section
variable {X : Cx}
noncomputable def zE (X : Cx) (J : It) (g : TG) (tt : TT) (te : TE) (D : Addr) (Q : VK) (W : Nat → Nat → St → Hp → Prop) : Prop := ∀ i m τ H, W i m τ H →
  (J.stop i H ∧ Q (.ref D) H) ∨ (J.go i H ∧ ∀ x H', J.yld i H x H' → g x τ H' fun aI H2 => tt aI H2 fun b H3 => if b = true then te aI H3 fun y H4 => ∃ k ns m', y = .int k ∧ H4 D = some (fw X.prog X.w D ns) ∧ ns.length + 1 < scanBound ∧ m' < m ∧ W (i + 1) m' aI (upd H4 D (fw X.prog X.w D (cF ns k))) else ∃ m', m' < m ∧ W (i + 1) m' aI H3)
noncomputable def zF (X : Cx) (tn : Nat) (idx : List Nat) (wi : TI) (g : TG) (tt : TT) (te : TE) : TE := fun σ H Q => wi σ H fun J H1 => ∀ D, H1 D = none → ∃ W : Nat → Nat → St → Hp → Prop, (∃ m, W 0 m (bL tn idx σ) (upd H1 D (fw X.prog X.w D []))) ∧ zE X J g tt te D Q W
theorem xF {pins : List (Addr × Obj)} {σ : St} {H2 : Hp} {s2 : Shared} {tg elt iter : Expr} {ifs : List Expr} {scope : Scope} {pos : Pos} {N' : List Str} {tn : Nat} {idx : List Nat} {g : TG} {tt : TT} {te : TE} {it : Addr} {fp : List Addr} {bX : Nat → Heap → Prop} {J : It}
    {cl : List (Str × Addr)} {E : Value → Shared → Prop} {RR : Value → Addr → Result → Shared → Prop} {Q : VK}
    (hc : X.calm = true) (B : aO X.N X.env.scope scope N' tn idx)
    (hg : Blk X N' scope fun Y => PG Y tg g) (ht : Blk X N' scope fun Y => hV Y ifs tt) (he : Blk X N' scope fun Y => PE Y elt te)
    (I : Inv X pins σ H2 s2) (T : Turn X.prog X.w X.K tg J fp it bX) (st : bX 0 s2.heap) (f2 : ∀ b ∈ fp, dR X pins H2 b)
    (gx : ∀ n c, cl.lookup n = some c → X.env.cells.lookup n = some c) (je : ∀ n, (n, NameKind.free) ∈ scope.names → ∃ c, cl.lookup n = some c)
    (hq : ∀ D, H2 D = none → ∃ W : Nat → Nat → St → Hp → Prop, (∃ m, W 0 m (bL tn idx σ) (upd H2 D (fw X.prog X.w D []))) ∧ zE X J g tt te D Q W)
    (GL : ∀ D C m s' H', Inv X pins σ H' s' → dR X pins H' C → s'.heap.Ns C m → Q (.ref D) H' → RR (.ref D) C (.ok .next) s') :
    wpAny (model X.prog X.w) X.A (newSet (.type "set")) (fun acc fv => wpAny (model X.prog X.w) X.A (newFunctionEnv scope X.env.globals cl [] X.env.qual none .none (some X.env)) (fun tm BG =>
      codeAny (model X.prog X.w) X.A (.compStart (.SetComp elt [⟨tg, iter, ifs, 0⟩] scope pos) 0 (.ref it) acc { tm with scope := relabel scope X.env }) (RR acc tm.locals) BG) E fv) E s2 := by
  obtain ⟨b1, b2, b3, b4⟩ := id B
  refine EB (wpAny_newFunctionEnv (fun y hy => (b2 y hy).1) (by intro y hy; simp at hy) (fun dy jf gy => ?_) b1)
  dsimp only at jf gy ⊢
  generalize hG : s2.heap.push (fY X.w) = G at jf gy ⊢
  have hC : G.objs.size = s2.heap.objs.size + 1 := by rw [← hG, Heap.size_push]
  have y0 : s2.heap.objs.size ≠ G.objs.size := by rw [hC]; exact Nat.ne_of_lt (Nat.lt_succ_self _)
  have n5 : s2.heap.objs.size ≤ G.objs.size := by rw [hC]; exact Nat.le_succ _
  have below : ∀ b, b < s2.heap.objs.size → b ≠ G.objs.size := fun b hb => by rw [hC]; exact Nat.ne_of_lt (Nat.lt_succ_of_lt hb)
  have old : ∀ b o, s2.heap.get? b = some o → dy.get? b = some o := fun b o e => gy.extBut b o (below b (Heap.lt_size e)) (Heap.get?_push_of_some _ (hG ▸ Heap.get?_push_of_some _ e))
  have GN : bQ X.prog X.w dy s2.heap.objs.size [] := by
    have q : bQ X.prog X.w G s2.heap.objs.size [] := hG ▸ wa
    exact q.cp fun o e => gy.extBut _ _ y0 (Heap.get?_push_of_some _ e)
  have y6 : H2 s2.heap.objs.size = none := I.hok.fresh (Nat.le_refl _)
  have yZ : upd H2 s2.heap.objs.size (fw X.prog X.w s2.heap.objs.size []) G.objs.size = none := by rw [ae (Ne.symm y0)]; exact I.hok.fresh n5
  have BH : cJ X.prog X.w (upd H2 s2.heap.objs.size (fw X.prog X.w s2.heap.objs.size [])) dy := I.hok.laid old (Nat.le_refl _) (qg GN)
  have me : ∀ b ∈ fp, b < s2.heap.objs.size := fun b hb => let ⟨o, e, _⟩ := T.obj _ _ st b hb; Heap.lt_size e
  obtain ⟨W, ⟨m0, w0⟩, turn⟩ := hq s2.heap.objs.size y6
  have I1 : Inv (hZ X N' scope cl G.objs.size s2 H2 fp) [] (bL tn idx σ) (upd H2 s2.heap.objs.size (fw X.prog X.w s2.heap.objs.size [])) { s2 with heap := dy, toks := s2.toks + ([] : List (Str × Value)).length } := by
    refine md (g' := s2.gens) (m0 := fun x => ([] : List (Str × Value)).reverse.lookup x) I b1 rfl rfl gx (fun x hx => ?_) (fun z => I.ok.hd z) I.ok.frames (.inl rfl) n5 f2 me (Un.laid old (Nat.le_refl _) y6) BH yZ old jf (fun i x v e1 e2 e3 => ?_) (B.len σ) I.bare.self
    · have jg : (relabel scope X.env).names.lookup x = some .cell ∨ (relabel scope X.env).names.lookup x = some .free := hx
      rw [gw] at jg
      cases q : scope.names.lookup x with
      | none => rw [q] at jg; rcases jg with z | z <;> cases z
      | some k0 =>
        have hm := PySem.mem_of_lookup q
        rw [q] at jg
        by_cases hk : k0 = .free
        · subst hk; exact je x hm
        · have nk : (k0 == NameKind.free) = false := by simpa using hk
          have nc := (b2 _ hm).1
          simp only [Option.map_some, nk, Bool.false_and, Bool.false_eq_true, if_false] at jg
          rcases jg with z | z
          · exact absurd (Option.some.inj z) nc
          · exact absurd (Option.some.inj z) hk
    · obtain ⟨fr, j, e4, e5⟩ := B.at e1 e2
      have kx := (b2 _ (PySem.mem_of_lookup fr)).2.2 rfl
      refine ⟨?_, .inr kx, kx, j, e4, e5⟩
      show (relabel scope X.env).names.lookup x = some .cell ∨ (relabel scope X.env).names.lookup x = some .free
      rw [gw, fr]
      simp only [Option.map_some]
      split
      · exact .inl rfl
      · exact .inr rfl
  have stat : ∀ {H' : Hp}, (∀ b ∈ fp, H' b = none) → ∀ b ∈ fp, dR (hZ X N' scope cl G.objs.size s2 H2 fp) [] H' b := fun hn b hb => by
    refine ⟨hn b hb, below b (me b hb), fun z => ?_, .inl hb, fun x c e => (f2 b hb).2.2.2.2.1 x c (gx x c e), fun p hp => absurd (show p ∈ ([] : List (Addr × Obj)) from hp) (by simp)⟩
    rcases List.mem_cons.mp (I.g8 b z) with q | q
    · exact (f2 b hb).2.1 q
    · exact (f2 b hb).2.2.1 q
  have loop : ∀ fv : Shared, fv = { s2 with heap := dy, toks := s2.toks + ([] : List (Str × Value)).length } →
      codeAny (model X.prog X.w) X.A (.compLoop (.SetComp elt [⟨tg, iter, ifs, 0⟩] scope pos) 0 (.ref it) (.ref s2.heap.objs.size) (compEnvC scope cl G.objs.size X.env))
        (RR (.ref s2.heap.objs.size) G.objs.size) fv := by
    rintro fv rfl
    refine codeAny_loop rfl (fun n s' => ∃ i τ H', Inv (hZ X N' scope cl G.objs.size s2 H2 fp) [] τ H' s' ∧ bX i s'.heap ∧ (∀ b ∈ fp, H' b = none) ∧ W i n τ H') (fun n s hI => ?_) m0
      ⟨0, _, _, I1, T.keep _ _ _ st fun b _ o e => old b o e, fun b hb => by rw [ae (Nat.ne_of_lt (me b hb))]; exact (f2 b hb).1, w0⟩
    show wpAny _ X.A ((compTurn (.SetComp elt [⟨tg, iter, ifs, 0⟩] scope pos) 0 (.ref it) (.ref s2.heap.objs.size) (compEnvC scope cl G.objs.size X.env)).onRaise (fun x => do noteFrame x (compEnvC scope cl G.objs.size X.env); theTreesLotGoes x)) _ _ s
    refine wpAny_noted ?_
    rw [tT]
    obtain ⟨i, τ, H3, I3, lV, qH, w3⟩ := hI
    rcases turn i n τ H3 w3 with ⟨stop, qn⟩ | ⟨go, step⟩
    · refine wpAny_bind (wpAny_standAt (wpAny_bind (wpAny_mono (T.done (hZ X N' scope cl G.objs.size s2 H2 fp) rfl rfl rfl hc i [] s τ H3 (fun _ _ => False) I3 (stat qH) lV stop) (fun r s4 ⟨hr, I4⟩ => ?_) fun _ _ z => z.elim)))
      subst hr
      refine wpAny_pure ?_
      have J2 : Inv X pins σ H3 s4 := I.oH I4.os I4.base I4.hok I4.bare fun b hb => ⟨(f2 b hb).2.2.2.1, (f2 b hb).2.1, (f2 b hb).2.2.2.2.1, (f2 b hb).2.2.2.2.2⟩
      obtain ⟨mm, hm, _⟩ := I4.loc
      exact GL _ _ mm s4 H3 J2 (I.pZ n5 I4.free) hm qn
    · refine wpAny_bind (wpAny_standAt (wpAny_bind (wpAny_mono (T.item (hZ X N' scope cl G.objs.size s2 H2 fp) rfl rfl rfl hc i [] s τ H3 (fun _ _ => False) I3 (stat qH) lV go) (fun r s4 ⟨u, hr, h4⟩ => ?_) fun _ _ z => z.elim)))
      subst hr
      refine wpAny_bind (wpAny_mono h4 (fun _ s5 ⟨x, H5, I5, r5, y5, gv, oJ⟩ => ?_) fun _ _ z => z.elim)
      have oK := I5.pinned (stat oJ) (T.obj _ _ gv)
      have again : ∀ {jh : St} {H7 : Hp} {s7 : Shared}, Inv (hZ X N' scope cl G.objs.size s2 H2 fp) ([] ++ gu fp s5.heap) jh H7 s7 → (∃ m', m' < n ∧ W (i + 1) m' jh H7) →
          ∃ m, m < n ∧ ∃ i τ H', Inv (hZ X N' scope cl G.objs.size s2 H2 fp) [] τ H' s7 ∧ bX i s7.heap ∧ (∀ b ∈ fp, H' b = none) ∧ W i m τ H' := fun {jh H7 s7} I7 n7 => by
        obtain ⟨m', hm, w7⟩ := n7
        refine ⟨m', hm, i + 1, jh, H7, I7.b6, T.keep _ _ _ gv fun b hb o e => (I7.pin (b, o) (List.mem_append_right _ (List.mem_append_right _ (bZ hb e)))).1, fun b hb => ?_, w7⟩
        obtain ⟨o, e, d⟩ := T.obj _ _ gv b hb
        exact (I7.pin (b, o) (List.mem_append_right _ (List.mem_append_right _ (bZ hb e)))).2.1
      refine wpAny_bind (wpAny_mono (hg cl G.objs.size s2 H2 fp _ s5 τ H5 x u _ oK r5 (step x H5 y5)) (fun _ s6 ⟨gJ, H6, I6, q6⟩ => ?_) fun _ _ z => z.elim)
      refine wpAny_bind (wpAny_mono (ht cl G.objs.size s2 H2 fp _ s6 gJ H6 _ I6 q6) (fun ok s7 ⟨H7, I7, q7⟩ => ?_) fun _ _ z => z.elim)
      cases ok with
      | false => exact wpAny_pure ⟨rfl, again I7 q7⟩
      | true =>
        refine wpAny_bind (wpAny_bind (wpAny_mono (he cl G.objs.size s2 H2 fp _ s7 gJ H7 _ I7 q7) (fun yv s8 ⟨y, H8, I8, r8, q8⟩ => ?_) fun _ _ z => z.elim))
        obtain ⟨m, ns, m', ey, hD, hsz, mh, w8⟩ := q8
        subst ey
        obtain ⟨tk, rfl⟩ := r8
        refine wpAny_bind (wpAny_standAt (wpAny_bind (zD (qh (X := hZ X N' scope cl G.objs.size s2 H2 fp) I8 hD) hsz fun h' zx jM hM => ?_)))
        have I9 := I8.write (x := s2.heap.objs.size) (e := s2.heap.objs.size) (t' := zx) (by rw [hD]; exact trivial) (.inl rfl) (fun b u hb hu => (jM.2 b hb).trans hu) (o8 hM) (qg hM)
        exact wpAny_pure (wpAny_pure ⟨rfl, again I9 ⟨m', mh, w8⟩⟩)
  exact vm (loop _ rfl) (T.self _ 0 _ _ _ (T.keep _ _ _ st fun b _ o e => old b o e) (loop _ rfl))
variable {tg elt iter : Expr} {ifs : List Expr} {scope : Scope} {pos : Pos} {N' : List Str} {tn : Nat} {idx : List Nat} {wi : TI} {g : TG} {tt : TT} {te : TE}
theorem xG (hc : X.calm = true) (B : aO X.N X.env.scope scope N' tn idx) (hi : PI X tg iter wi)
    (hg : Blk X N' scope fun Y => PG Y tg g) (ht : Blk X N' scope fun Y => hV Y ifs tt) (he : Blk X N' scope fun Y => PE Y elt te)
    (hs : ∀ x, foldedSetIterable iter X.env x = pure x := by intro _; rfl) : PE X (.SetComp elt [⟨tg, iter, ifs, 0⟩] scope pos) (zF X tn idx wi g tt te) := by
  refine ⟨?_⟩
  intro pins s σ H Q I h
  obtain ⟨cl, kN, gx, je⟩ := iK (scope := scope) (env := X.env) fun n hn => I.ok.has n ((B.2.1 _ hn).2.2 rfl)
  rw [arm_eval_SetComp]
  refine wpAny_comprehension_free (use := none) rfl hs kN B.1 (fun y hy => (B.2.1 y hy).2.1) (wpAny_mono (hi pins s σ H _ I h) (fun xv s1 h1 => wpAny_mono h1 (fun vP s2 h2 => ?_) fun _ _ z => z) fun _ _ z => z)
  obtain ⟨it, fp, bX, J, H2, e, I2, T, oI, f2, q2⟩ := h2
  subst e
  refine xF (RR := fun acc C => compPost (model X.prog X.w) X.A X.xe none (EP X pins σ Q) acc C) hc B hg ht he I2 T oI f2 gx je q2 fun D C m s' H' J2 fC hm q => ?_
  exact ⟨m, hm, fun h' qT => ⟨.ref D, H', fC.turn J2 qT, rfl, q⟩⟩
end
inductive Dt where
  | aq | bl (b : Bool) | int (i : Int) | str (x : Str) | lst (xs : List Dt) | tup (xs : List Dt)
inductive d9 (H : Hp) : V → Dt → Prop where
  | aq : d9 H .aq .aq
  | bl (b : Bool) : d9 H (.bl b) (.bl b)
  | int (i : Int) : d9 H (.int i) (.int i)
  | str (x : Str) : d9 H (.str x) (.str x)
  | lst {a : Addr} {xs : List V} {ds : List Dt} (e : H a = some (.lst xs)) (hl : xs.length = ds.length) (h : ∀ (i : Nat) (x : V) (d : Dt), xs[i]? = some x → ds[i]? = some d → d9 H x d) : d9 H (.ref a) (.lst ds)
  | tup {a : Addr} {xs : List V} {ds : List Dt} (e : H a = some (.tup xs)) (hl : xs.length = ds.length) (h : ∀ (i : Nat) (x : V) (d : Dt), xs[i]? = some x → ds[i]? = some d → d9 H x d) : d9 H (.ref a) (.tup ds)
mutual
noncomputable def di : Dt → Dt → Bool
  | .aq, .aq => true
  | .bl a, .bl b => a == b
  | .bl a, .int b => (if a then 1 else 0) == b
  | .int a, .bl b => a == (if b then 1 else 0)
  | .int a, .int b => a == b
  | .str a, .str b => a == b
  | .lst xs, .lst ys => fx xs ys
  | .tup xs, .tup ys => fx xs ys
  | _, _ => false
noncomputable def fx : List Dt → List Dt → Bool
  | [], [] => true
  | x :: xs, y :: ys => di x y && fx xs ys
  | _, _ => false
end
mutual
theorem kR : ∀ d : Dt, di d d = true
  | .aq => by simp [di]
  | .bl b => by simp [di]
  | .int i => by simp [di]
  | .str x => by simp [di]
  | .lst xs => by simp only [di]; exact mB xs
  | .tup xs => by simp only [di]; exact mB xs
theorem mB : ∀ ds : List Dt, fx ds ds = true
  | [] => by simp [fx]
  | d :: ds => by simp only [fx]; rw [kR d, mB ds]; rfl
end
theorem dW : ∀ (xs ys : List Dt), fx xs ys = ((List.range (min xs.length ys.length)).all (fun j => di (xs.getD j .aq) (ys.getD j .aq)) && xs.length == ys.length)
  | [], [] => by simp [fx]
  | [], _ :: _ => by simp [fx]
  | _ :: _, [] => by simp [fx]
  | x :: xs, y :: ys => by
    rw [fx, dW xs ys]
    have e : min (x :: xs).length (y :: ys).length = min xs.length ys.length + 1 := by simp [Nat.succ_min_succ]
    rw [e, List.range_succ_eq_map, List.all_cons, List.all_map]
    have e2 : ((x :: xs).length == (y :: ys).length) = (xs.length == ys.length) := by simp
    rw [e2, Bool.and_assoc]
    rfl
theorem d9.inj {H : Hp} {v : V} {d : Dt} (h : d9 H v d) : ∀ {d' : Dt}, d9 H v d' → d = d' := by
  induction h with
  | aq => intro d' h'; cases h'; rfl
  | bl b => intro d' h'; cases h'; rfl
  | int i => intro d' h'; cases h'; rfl
  | str x => intro d' h'; cases h'; rfl
  | lst e hl h ih =>
    intro d' h'
    cases h' with
    | lst e' zG h' =>
      rw [e] at e'; cases e'
      congr 1
      refine List.ext_getElem? fun i => ?_
      rename_i xs ds gp
      by_cases hi : i < xs.length
      · rw [List.getElem?_eq_getElem (by omega), List.getElem?_eq_getElem (by omega)]
        exact congrArg some (ih i _ _ (List.getElem?_eq_getElem hi) (List.getElem?_eq_getElem (by omega)) (h' i _ _ (List.getElem?_eq_getElem hi) (List.getElem?_eq_getElem (by omega))))
      · rw [List.getElem?_eq_none (by omega), List.getElem?_eq_none (by omega)]
    | tup e' zG h' => rw [e] at e'; cases e'
  | tup e hl h ih =>
    intro d' h'
    cases h' with
    | lst e' zG h' => rw [e] at e'; cases e'
    | tup e' zG h' =>
      rw [e] at e'; cases e'
      congr 1
      refine List.ext_getElem? fun i => ?_
      rename_i xs ds gp
      by_cases hi : i < xs.length
      · rw [List.getElem?_eq_getElem (by omega), List.getElem?_eq_getElem (by omega)]
        exact congrArg some (ih i _ _ (List.getElem?_eq_getElem hi) (List.getElem?_eq_getElem (by omega)) (h' i _ _ (List.getElem?_eq_getElem hi) (List.getElem?_eq_getElem (by omega))))
      · rw [List.getElem?_eq_none (by omega), List.getElem?_eq_none (by omega)]
mutual
noncomputable def iE : Dt → Nat
  | .lst xs => fy xs + 1
  | .tup xs => fy xs + 1
  | _ => 0
noncomputable def fy : List Dt → Nat
  | [] => 0
  | x :: xs => max (iE x) (fy xs)
end
theorem jt : ∀ {ds : List Dt} {i : Nat} {d : Dt}, ds[i]? = some d → iE d ≤ fy ds
  | [], _, _, h => by simp at h
  | x :: xs, 0, d, h => by
    simp at h; subst h
    rw [fy]; exact Nat.le_max_left _ _
  | x :: xs, i + 1, d, h => by
    rw [fy]
    exact Nat.le_trans (jt (i := i) (by simpa using h)) (Nat.le_max_right _ _)
section
variable {X : Cx} {pins : List (Addr × Obj)} {σ : St} {H : Hp} {s : Shared}
theorem Inv.lists (I : Inv X pins σ H s) {a : Addr} {xs : List V} (h : H a = some (.lst xs)) : ∃ its : List Value, Vals xs its ∧ s.heap.IsList a its.toArray := by
  obtain ⟨its, rv, p, _⟩ := I.list (a8.of h)
  exact ⟨its, rv, p.isList⟩
theorem Inv.tups (I : Inv X pins σ H s) {a : Addr} {xs : List V} (h : H a = some (.tup xs)) : ∃ its : List Value, Vals xs its ∧ s.heap.IsTuple a its.toArray := by
  obtain ⟨its, rv, p, _⟩ := I.tuple (cB.of h)
  exact ⟨its, rv, p⟩
theorem o9 (I : Inv X pins σ H s) {x y : V} {d : Dt} (hx : d9 H x d) : ∀ {e : Dt} {u v : Value} {A : Around}, d9 H y e → RelV x u → RelV y v → A.units + iE d < cLine → SeqAt.EqAt A s u v (di d e) := by
  have lists := fun {a : Addr} {xs : List V} (h : H a = some (.lst xs)) => I.lists h
  have tups := fun {a : Addr} {xs : List V} (h : H a = some (.tup xs)) => I.tups h
  induction hx generalizing y with
  | aq =>
    intro e u v A hy rx ry hu
    have aR : A.units < cLine := by omega
    cases rx
    cases hy with
    | aq => cases ry; exact SeqAt.EqAt.same _
    | bl b => cases ry; exact SeqAt.EqAt.none_bool _
    | int i => obtain ⟨t, rfl⟩ := ry; exact SeqAt.EqAt.none_int _ _
    | str z => obtain ⟨t, rfl⟩ := ry; exact SeqAt.EqAt.none_str _ _
    | lst e2 _ _ => cases ry; obtain ⟨_, _, p⟩ := lists e2; exact SeqAt.EqAt.none_list p aR
    | tup e2 _ _ => cases ry; obtain ⟨_, _, p⟩ := tups e2; exact SeqAt.EqAt.none_tuple p aR
  | bl a =>
    intro e u v A hy rx ry hu
    have aR : A.units < cLine := by omega
    cases rx
    cases hy with
    | aq => cases ry; exact SeqAt.EqAt.bool_none _
    | bl b => cases ry; exact SeqAt.EqAt.bool_bool _ _
    | int i => obtain ⟨t, rfl⟩ := ry; exact SeqAt.EqAt.bool_int _ _ _
    | str z => obtain ⟨t, rfl⟩ := ry; exact SeqAt.EqAt.bool_str _ _ _
    | lst e2 _ _ => cases ry; obtain ⟨_, _, p⟩ := lists e2; exact SeqAt.EqAt.bool_list _ p aR
    | tup e2 _ _ => cases ry; obtain ⟨_, _, p⟩ := tups e2; exact SeqAt.EqAt.bool_tuple _ p aR
  | int a =>
    intro e u v A hy rx ry hu
    have aR : A.units < cLine := by omega
    obtain ⟨ta, rfl⟩ := rx
    cases hy with
    | aq => cases ry; exact SeqAt.EqAt.int_none _ _
    | bl b => cases ry; exact SeqAt.EqAt.int_bool _ _ _
    | int i => obtain ⟨t, rfl⟩ := ry; exact SeqAt.EqAt.int_int _ _ _ _
    | str z => obtain ⟨t, rfl⟩ := ry; exact SeqAt.EqAt.int_str _ _ _ _
    | lst e2 _ _ => cases ry; obtain ⟨_, _, p⟩ := lists e2; exact SeqAt.EqAt.int_list _ _ p aR
    | tup e2 _ _ => cases ry; obtain ⟨_, _, p⟩ := tups e2; exact SeqAt.EqAt.int_tuple _ _ p aR
  | str a =>
    intro e u v A hy rx ry hu
    have aR : A.units < cLine := by omega
    obtain ⟨ta, rfl⟩ := rx
    cases hy with
    | aq => cases ry; exact SeqAt.EqAt.str_none _ _
    | bl b => cases ry; exact SeqAt.EqAt.str_bool _ _ _
    | int i => obtain ⟨t, rfl⟩ := ry; exact SeqAt.EqAt.str_int _ _ _ _
    | str z => obtain ⟨t, rfl⟩ := ry; exact SeqAt.EqAt.str_str _ _ _ _
    | lst e2 _ _ => cases ry; obtain ⟨_, _, p⟩ := lists e2; exact SeqAt.EqAt.str_list _ _ p aR
    | tup e2 _ _ => cases ry; obtain ⟨_, _, p⟩ := tups e2; exact SeqAt.EqAt.str_tuple _ _ p aR
  | lst e1 iD h1 ih =>
    rename_i a xs ds
    intro e u v A hy rx ry hu
    have aR : A.units < cLine := by omega
    have zH : A.units + fy ds + 1 < cLine := by rw [iE] at hu; omega
    cases rx
    obtain ⟨its, rv, p⟩ := lists e1
    cases hy with
    | aq => cases ry; exact SeqAt.EqAt.list_none p aR
    | bl b => cases ry; exact SeqAt.EqAt.list_bool _ p aR
    | int i => obtain ⟨t, rfl⟩ := ry; exact SeqAt.EqAt.list_int _ _ p aR
    | str z => obtain ⟨t, rfl⟩ := ry; exact SeqAt.EqAt.list_str _ _ p aR
    | lst e2 fq h2 =>
      rename_i b ys es
      cases ry
      by_cases pf : a = b
      · subst pf
        have := (d9.lst e1 iD h1).inj (d9.lst e2 fq h2)
        cases this
        rw [kR]
        exact SeqAt.EqAt.same _
      · obtain ⟨bW, gA, p2⟩ := lists e2
        have l1 := rv.length
        have l2 := gA.length
        have at_ : ∀ j (g1 : j < its.toArray.size) (g2 : j < bW.toArray.size), SeqAt.EqAt A.in1 s its.toArray[j] bW.toArray[j] (di (ds.getD j .aq) (es.getD j .aq)) := fun j g1 g2 => by
          have ia : j < xs.length := by rw [l1]; simpa using g1
          have ib : j < ys.length := by rw [l2]; simpa using g2
          have r1 := cz rv g1
          have r2 := cz gA g2
          rw [List.getD_eq_getElem?_getD, List.getElem?_eq_getElem ia] at r1
          rw [List.getD_eq_getElem?_getD, List.getElem?_eq_getElem ib] at r2
          have d1 : ds[j]? = some ds[j] := List.getElem?_eq_getElem (by omega)
          have d2 : es[j]? = some es[j] := List.getElem?_eq_getElem (by omega)
          rw [List.getD_eq_getElem?_getD, List.getD_eq_getElem?_getD, d1, d2]
          have := jt d1
          exact ih j _ _ (List.getElem?_eq_getElem ia) d1 (h2 j _ _ (List.getElem?_eq_getElem ib) d2) r1 r2 (by show A.units + 1 + _ < cLine; omega)
        refine SeqAt.EqAt.of_refs pf ?_
        rw [di, dW]
        by_cases hsz : ds.length = es.length
        · have q := SeqAt.RcAt.lists p p2 (by simp only [List.size_toArray]; omega) aR at_
          have z : (ds.length == es.length) = true := by simpa using hsz
          rw [z, Bool.and_true, ← hsz, Nat.min_self]
          rw [List.size_toArray, ← l1, iD] at q
          exact q
        · have z : (ds.length == es.length) = false := by simpa using hsz
          rw [z, Bool.and_false]
          exact SeqAt.RcAt.lists_lengths p p2 (by simp only [List.size_toArray]; simpa [bne_iff_ne] using (show its.length ≠ bW.length by omega)) aR
    | tup e2 fq h2 => cases ry; obtain ⟨_, _, p2⟩ := tups e2; exact SeqAt.EqAt.list_tuple p p2 aR
  | tup e1 iD h1 ih =>
    rename_i a xs ds
    intro e u v A hy rx ry hu
    have aR : A.units < cLine := by omega
    have zH : A.units + fy ds + 1 < cLine := by rw [iE] at hu; omega
    cases rx
    obtain ⟨its, rv, p⟩ := tups e1
    cases hy with
    | aq => cases ry; exact SeqAt.EqAt.tuple_none p aR
    | bl b => cases ry; exact SeqAt.EqAt.tuple_bool _ p aR
    | int i => obtain ⟨t, rfl⟩ := ry; exact SeqAt.EqAt.tuple_int _ _ p aR
    | str z => obtain ⟨t, rfl⟩ := ry; exact SeqAt.EqAt.tuple_str _ _ p aR
    | lst e2 fq h2 => cases ry; obtain ⟨_, _, p2⟩ := lists e2; exact SeqAt.EqAt.tuple_list p p2 aR
    | tup e2 fq h2 =>
      rename_i b ys es
      cases ry
      by_cases pf : a = b
      · subst pf
        have := (d9.tup e1 iD h1).inj (d9.tup e2 fq h2)
        cases this
        rw [kR]
        exact SeqAt.EqAt.same _
      · obtain ⟨bW, gA, p2⟩ := tups e2
        have l1 := rv.length
        have l2 := gA.length
        have at_ : ∀ j (g1 : j < its.toArray.size) (g2 : j < bW.toArray.size), SeqAt.EqAt A.in1 s its.toArray[j] bW.toArray[j] (di (ds.getD j .aq) (es.getD j .aq)) := fun j g1 g2 => by
          have ia : j < xs.length := by rw [l1]; simpa using g1
          have ib : j < ys.length := by rw [l2]; simpa using g2
          have r1 := cz rv g1
          have r2 := cz gA g2
          rw [List.getD_eq_getElem?_getD, List.getElem?_eq_getElem ia] at r1
          rw [List.getD_eq_getElem?_getD, List.getElem?_eq_getElem ib] at r2
          have d1 : ds[j]? = some ds[j] := List.getElem?_eq_getElem (by omega)
          have d2 : es[j]? = some es[j] := List.getElem?_eq_getElem (by omega)
          rw [List.getD_eq_getElem?_getD, List.getD_eq_getElem?_getD, d1, d2]
          have := jt d1
          exact ih j _ _ (List.getElem?_eq_getElem ia) d1 (h2 j _ _ (List.getElem?_eq_getElem ib) d2) r1 r2 (by show A.units + 1 + _ < cLine; omega)
        refine SeqAt.EqAt.of_refs pf ?_
        rw [di, dW]
        have q := SeqAt.RcAt.tuples p p2 aR at_
        rw [List.size_toArray, List.size_toArray, ← l1, ← l2, iD, fq] at q
        exact q
end
section
variable {X : Cx} {pins : List (Addr × Obj)} {σ : St} {H : Hp} {s : Shared}
theorem Hi (I : Inv X pins σ H s) {x y : V} {d e : Dt} {u v : Value} {A : Around} (hx : d9 H x d) (hy : d9 H y e) (rx : RelV x u) (ry : RelV y v) (hu : A.units + iE d < cLine) : SeqAt.RcAt A s u v (di d e) := by
  have aR : A.units < cLine := by omega
  have lists := fun {a : Addr} {xs : List V} (h : H a = some (.lst xs)) => I.lists h
  have tups := fun {a : Addr} {xs : List V} (h : H a = some (.tup xs)) => I.tups h
  cases hx with
  | aq =>
    cases rx
    cases hy with
    | aq => cases ry; exact SeqAt.RcAt.none_none
    | bl b => cases ry; exact SeqAt.RcAt.none_bool _
    | int b => obtain ⟨t, rfl⟩ := ry; exact SeqAt.RcAt.none_int _ _
    | str b => obtain ⟨t, rfl⟩ := ry; exact SeqAt.RcAt.none_str _ _
    | lst e2 _ _ => cases ry; obtain ⟨_, _, p⟩ := lists e2; exact SeqAt.RcAt.none_list p aR
    | tup e2 _ _ => cases ry; obtain ⟨_, _, p⟩ := tups e2; exact SeqAt.RcAt.none_tuple p aR
  | bl a =>
    cases rx
    cases hy with
    | aq => cases ry; exact SeqAt.RcAt.bool_none _
    | bl b => cases ry; exact SeqAt.RcAt.bool_bool _ _
    | int b => obtain ⟨t, rfl⟩ := ry; exact SeqAt.RcAt.bool_int _ _ _
    | str b => obtain ⟨t, rfl⟩ := ry; exact SeqAt.RcAt.bool_str _ _ _
    | lst e2 _ _ => cases ry; obtain ⟨_, _, p⟩ := lists e2; exact SeqAt.RcAt.bool_list _ p aR
    | tup e2 _ _ => cases ry; obtain ⟨_, _, p⟩ := tups e2; exact SeqAt.RcAt.bool_tuple _ p aR
  | int a =>
    obtain ⟨ta, rfl⟩ := rx
    cases hy with
    | aq => cases ry; exact SeqAt.RcAt.int_none _ _
    | bl b => cases ry; exact SeqAt.RcAt.int_bool _ _ _
    | int b => obtain ⟨t, rfl⟩ := ry; exact SeqAt.RcAt.int_int _ _ _ _
    | str b => obtain ⟨t, rfl⟩ := ry; exact SeqAt.RcAt.int_str _ _ _ _
    | lst e2 _ _ => cases ry; obtain ⟨_, _, p⟩ := lists e2; exact SeqAt.RcAt.int_list _ _ p aR
    | tup e2 _ _ => cases ry; obtain ⟨_, _, p⟩ := tups e2; exact SeqAt.RcAt.int_tuple _ _ p aR
  | str a =>
    obtain ⟨ta, rfl⟩ := rx
    cases hy with
    | aq => cases ry; exact SeqAt.RcAt.str_none _ _
    | bl b => cases ry; exact SeqAt.RcAt.str_bool _ _ _
    | int b => obtain ⟨t, rfl⟩ := ry; exact SeqAt.RcAt.str_int _ _ _ _
    | str b => obtain ⟨t, rfl⟩ := ry; exact SeqAt.RcAt.str_str _ _ _ _
    | lst e2 _ _ => cases ry; obtain ⟨_, _, p⟩ := lists e2; exact SeqAt.RcAt.str_list _ _ p aR
    | tup e2 _ _ => cases ry; obtain ⟨_, _, p⟩ := tups e2; exact SeqAt.RcAt.str_tuple _ _ p aR
  | lst e1 iD h1 =>
    rename_i a xs ds
    have zH : A.units + fy ds + 1 < cLine := by rw [iE] at hu; omega
    cases rx
    obtain ⟨its, rv, p⟩ := lists e1
    cases hy with
    | aq => cases ry; exact SeqAt.RcAt.list_none p aR
    | bl b => cases ry; exact SeqAt.RcAt.list_bool _ p aR
    | int b => obtain ⟨t, rfl⟩ := ry; exact SeqAt.RcAt.list_int _ _ p aR
    | str b => obtain ⟨t, rfl⟩ := ry; exact SeqAt.RcAt.list_str _ _ p aR
    | lst e2 fq h2 =>
      rename_i b ys es
      cases ry
      obtain ⟨bW, gA, p2⟩ := lists e2
      have l1 := rv.length
      have l2 := gA.length
      have at_ : ∀ j (g1 : j < its.toArray.size) (g2 : j < bW.toArray.size), SeqAt.EqAt A.in1 s its.toArray[j] bW.toArray[j] (di (ds.getD j .aq) (es.getD j .aq)) := fun j g1 g2 => by
        have ia : j < xs.length := by rw [l1]; simpa using g1
        have ib : j < ys.length := by rw [l2]; simpa using g2
        have r1 := cz rv g1
        have r2 := cz gA g2
        rw [List.getD_eq_getElem?_getD, List.getElem?_eq_getElem ia] at r1
        rw [List.getD_eq_getElem?_getD, List.getElem?_eq_getElem ib] at r2
        have d1 : ds[j]? = some ds[j] := List.getElem?_eq_getElem (by omega)
        have d2 : es[j]? = some es[j] := List.getElem?_eq_getElem (by omega)
        rw [List.getD_eq_getElem?_getD, List.getD_eq_getElem?_getD, d1, d2]
        have := jt d1
        exact o9 I (h1 j _ _ (List.getElem?_eq_getElem ia) d1) (h2 j _ _ (List.getElem?_eq_getElem ib) d2) r1 r2 (by show A.units + 1 + _ < cLine; omega)
      rw [di, dW]
      by_cases hsz : ds.length = es.length
      · have q := SeqAt.RcAt.lists p p2 (by simp only [List.size_toArray]; omega) aR at_
        have z : (ds.length == es.length) = true := by simpa using hsz
        rw [z, Bool.and_true, ← hsz, Nat.min_self]
        rw [List.size_toArray, ← l1, iD] at q
        exact q
      · have z : (ds.length == es.length) = false := by simpa using hsz
        rw [z, Bool.and_false]
        exact SeqAt.RcAt.lists_lengths p p2 (by simp only [List.size_toArray]; simpa [bne_iff_ne] using (show its.length ≠ bW.length by omega)) aR
    | tup e2 fq h2 => cases ry; obtain ⟨_, _, p2⟩ := tups e2; exact SeqAt.RcAt.list_tuple p p2 aR
  | tup e1 iD h1 =>
    rename_i a xs ds
    have zH : A.units + fy ds + 1 < cLine := by rw [iE] at hu; omega
    cases rx
    obtain ⟨its, rv, p⟩ := tups e1
    cases hy with
    | aq => cases ry; exact SeqAt.RcAt.tuple_none p aR
    | bl b => cases ry; exact SeqAt.RcAt.tuple_bool _ p aR
    | int b => obtain ⟨t, rfl⟩ := ry; exact SeqAt.RcAt.tuple_int _ _ p aR
    | str b => obtain ⟨t, rfl⟩ := ry; exact SeqAt.RcAt.tuple_str _ _ p aR
    | lst e2 fq h2 => cases ry; obtain ⟨_, _, p2⟩ := lists e2; exact SeqAt.RcAt.tuple_list p p2 aR
    | tup e2 fq h2 =>
      rename_i b ys es
      cases ry
      obtain ⟨bW, gA, p2⟩ := tups e2
      have l1 := rv.length
      have l2 := gA.length
      have at_ : ∀ j (g1 : j < its.toArray.size) (g2 : j < bW.toArray.size), SeqAt.EqAt A.in1 s its.toArray[j] bW.toArray[j] (di (ds.getD j .aq) (es.getD j .aq)) := fun j g1 g2 => by
        have ia : j < xs.length := by rw [l1]; simpa using g1
        have ib : j < ys.length := by rw [l2]; simpa using g2
        have r1 := cz rv g1
        have r2 := cz gA g2
        rw [List.getD_eq_getElem?_getD, List.getElem?_eq_getElem ia] at r1
        rw [List.getD_eq_getElem?_getD, List.getElem?_eq_getElem ib] at r2
        have d1 : ds[j]? = some ds[j] := List.getElem?_eq_getElem (by omega)
        have d2 : es[j]? = some es[j] := List.getElem?_eq_getElem (by omega)
        rw [List.getD_eq_getElem?_getD, List.getD_eq_getElem?_getD, d1, d2]
        have := jt d1
        exact o9 I (h1 j _ _ (List.getElem?_eq_getElem ia) d1) (h2 j _ _ (List.getElem?_eq_getElem ib) d2) r1 r2 (by show A.units + 1 + _ < cLine; omega)
      rw [di, dW]
      have q := SeqAt.RcAt.tuples p p2 aR at_
      rw [List.size_toArray, List.size_toArray, ← l1, ← l2, iD, fq] at q
      exact q
theorem Hj (I : Inv X pins σ H s) {x y : V} {d e : Dt} {u v : Value} {A : Around} (hx : d9 H x d) (hy : d9 H y e) (rx : RelV x u) (ry : RelV y v) (hu : A.units + iE d < cLine) : SeqAt.RcNeAt A s u v (!(di d e)) := by
  have aR : A.units < cLine := by omega
  have lists := fun {a : Addr} {xs : List V} (h : H a = some (.lst xs)) => I.lists h
  have tups := fun {a : Addr} {xs : List V} (h : H a = some (.tup xs)) => I.tups h
  cases hx with
  | aq =>
    cases rx
    cases hy with
    | aq => cases ry; exact SeqAt.RcNeAt.none_none
    | bl b => cases ry; exact SeqAt.RcNeAt.none_bool _
    | int b => obtain ⟨t, rfl⟩ := ry; exact SeqAt.RcNeAt.none_int _ _
    | str b => obtain ⟨t, rfl⟩ := ry; exact SeqAt.RcNeAt.none_str _ _
    | lst e2 _ _ => cases ry; obtain ⟨_, _, p⟩ := lists e2; exact SeqAt.RcNeAt.none_list p aR
    | tup e2 _ _ => cases ry; obtain ⟨_, _, p⟩ := tups e2; exact SeqAt.RcNeAt.none_tuple p aR
  | bl a =>
    cases rx
    cases hy with
    | aq => cases ry; exact SeqAt.RcNeAt.bool_none _
    | bl b => cases ry; exact SeqAt.RcNeAt.bool_bool _ _
    | int b => obtain ⟨t, rfl⟩ := ry; exact SeqAt.RcNeAt.bool_int _ _ _
    | str b => obtain ⟨t, rfl⟩ := ry; exact SeqAt.RcNeAt.bool_str _ _ _
    | lst e2 _ _ => cases ry; obtain ⟨_, _, p⟩ := lists e2; exact SeqAt.RcNeAt.bool_list _ p aR
    | tup e2 _ _ => cases ry; obtain ⟨_, _, p⟩ := tups e2; exact SeqAt.RcNeAt.bool_tuple _ p aR
  | int a =>
    obtain ⟨ta, rfl⟩ := rx
    cases hy with
    | aq => cases ry; exact SeqAt.RcNeAt.int_none _ _
    | bl b => cases ry; exact SeqAt.RcNeAt.int_bool _ _ _
    | int b => obtain ⟨t, rfl⟩ := ry; exact SeqAt.RcNeAt.int_int _ _ _ _
    | str b => obtain ⟨t, rfl⟩ := ry; exact SeqAt.RcNeAt.int_str _ _ _ _
    | lst e2 _ _ => cases ry; obtain ⟨_, _, p⟩ := lists e2; exact SeqAt.RcNeAt.int_list _ _ p aR
    | tup e2 _ _ => cases ry; obtain ⟨_, _, p⟩ := tups e2; exact SeqAt.RcNeAt.int_tuple _ _ p aR
  | str a =>
    obtain ⟨ta, rfl⟩ := rx
    cases hy with
    | aq => cases ry; exact SeqAt.RcNeAt.str_none _ _
    | bl b => cases ry; exact SeqAt.RcNeAt.str_bool _ _ _
    | int b => obtain ⟨t, rfl⟩ := ry; exact SeqAt.RcNeAt.str_int _ _ _ _
    | str b => obtain ⟨t, rfl⟩ := ry; exact SeqAt.RcNeAt.str_str _ _ _ _
    | lst e2 _ _ => cases ry; obtain ⟨_, _, p⟩ := lists e2; exact SeqAt.RcNeAt.str_list _ _ p aR
    | tup e2 _ _ => cases ry; obtain ⟨_, _, p⟩ := tups e2; exact SeqAt.RcNeAt.str_tuple _ _ p aR
  | lst e1 iD h1 =>
    rename_i a xs ds
    have zH : A.units + fy ds + 1 < cLine := by rw [iE] at hu; omega
    cases rx
    obtain ⟨its, rv, p⟩ := lists e1
    cases hy with
    | aq => cases ry; exact SeqAt.RcNeAt.list_none p aR
    | bl b => cases ry; exact SeqAt.RcNeAt.list_bool _ p aR
    | int b => obtain ⟨t, rfl⟩ := ry; exact SeqAt.RcNeAt.list_int _ _ p aR
    | str b => obtain ⟨t, rfl⟩ := ry; exact SeqAt.RcNeAt.list_str _ _ p aR
    | lst e2 fq h2 =>
      rename_i b ys es
      cases ry
      obtain ⟨bW, gA, p2⟩ := lists e2
      have l1 := rv.length
      have l2 := gA.length
      have at_ : ∀ j (g1 : j < its.toArray.size) (g2 : j < bW.toArray.size), SeqAt.EqAt A.in1 s its.toArray[j] bW.toArray[j] (di (ds.getD j .aq) (es.getD j .aq)) := fun j g1 g2 => by
        have ia : j < xs.length := by rw [l1]; simpa using g1
        have ib : j < ys.length := by rw [l2]; simpa using g2
        have r1 := cz rv g1
        have r2 := cz gA g2
        rw [List.getD_eq_getElem?_getD, List.getElem?_eq_getElem ia] at r1
        rw [List.getD_eq_getElem?_getD, List.getElem?_eq_getElem ib] at r2
        have d1 : ds[j]? = some ds[j] := List.getElem?_eq_getElem (by omega)
        have d2 : es[j]? = some es[j] := List.getElem?_eq_getElem (by omega)
        rw [List.getD_eq_getElem?_getD, List.getD_eq_getElem?_getD, d1, d2]
        have := jt d1
        exact o9 I (h1 j _ _ (List.getElem?_eq_getElem ia) d1) (h2 j _ _ (List.getElem?_eq_getElem ib) d2) r1 r2 (by show A.units + 1 + _ < cLine; omega)
      rw [di, dW]
      by_cases hsz : ds.length = es.length
      · have q := SeqAt.RcNeAt.lists p p2 (by simp only [List.size_toArray]; omega) aR at_
        have z : (ds.length == es.length) = true := by simpa using hsz
        rw [z, Bool.and_true, ← hsz, Nat.min_self]
        rw [List.size_toArray, ← l1, iD] at q
        exact q
      · have z : (ds.length == es.length) = false := by simpa using hsz
        rw [z, Bool.and_false]
        exact SeqAt.RcNeAt.lists_lengths p p2 (by simp only [List.size_toArray]; simpa [bne_iff_ne] using (show its.length ≠ bW.length by omega)) aR
    | tup e2 fq h2 => cases ry; obtain ⟨_, _, p2⟩ := tups e2; exact SeqAt.RcNeAt.list_tuple p p2 aR
  | tup e1 iD h1 =>
    rename_i a xs ds
    have zH : A.units + fy ds + 1 < cLine := by rw [iE] at hu; omega
    cases rx
    obtain ⟨its, rv, p⟩ := tups e1
    cases hy with
    | aq => cases ry; exact SeqAt.RcNeAt.tuple_none p aR
    | bl b => cases ry; exact SeqAt.RcNeAt.tuple_bool _ p aR
    | int b => obtain ⟨t, rfl⟩ := ry; exact SeqAt.RcNeAt.tuple_int _ _ p aR
    | str b => obtain ⟨t, rfl⟩ := ry; exact SeqAt.RcNeAt.tuple_str _ _ p aR
    | lst e2 fq h2 => cases ry; obtain ⟨_, _, p2⟩ := lists e2; exact SeqAt.RcNeAt.tuple_list p p2 aR
    | tup e2 fq h2 =>
      rename_i b ys es
      cases ry
      obtain ⟨bW, gA, p2⟩ := tups e2
      have l1 := rv.length
      have l2 := gA.length
      have at_ : ∀ j (g1 : j < its.toArray.size) (g2 : j < bW.toArray.size), SeqAt.EqAt A.in1 s its.toArray[j] bW.toArray[j] (di (ds.getD j .aq) (es.getD j .aq)) := fun j g1 g2 => by
        have ia : j < xs.length := by rw [l1]; simpa using g1
        have ib : j < ys.length := by rw [l2]; simpa using g2
        have r1 := cz rv g1
        have r2 := cz gA g2
        rw [List.getD_eq_getElem?_getD, List.getElem?_eq_getElem ia] at r1
        rw [List.getD_eq_getElem?_getD, List.getElem?_eq_getElem ib] at r2
        have d1 : ds[j]? = some ds[j] := List.getElem?_eq_getElem (by omega)
        have d2 : es[j]? = some es[j] := List.getElem?_eq_getElem (by omega)
        rw [List.getD_eq_getElem?_getD, List.getD_eq_getElem?_getD, d1, d2]
        have := jt d1
        exact o9 I (h1 j _ _ (List.getElem?_eq_getElem ia) d1) (h2 j _ _ (List.getElem?_eq_getElem ib) d2) r1 r2 (by show A.units + 1 + _ < cLine; omega)
      rw [di, dW]
      have q := SeqAt.RcNeAt.tuples p p2 aR at_
      rw [List.size_toArray, List.size_toArray, ← l1, ← l2, iD, fq] at q
      exact q
end
section
variable {X : Cx}
noncomputable def B4 (neg : Bool) : R2 := fun x y H Q => ∃ d e, d9 H x d ∧ d9 H y e ∧ iE d ≤ 60 ∧ Q (.bl (if neg then !di d e else di d e)) H
theorem Hk (hu : X.A.units + 64 < cLine) : OpR X (compareOp .Eq) (B4 false) := by
  intro pins s σ H x y v u Q I rx ry h
  obtain ⟨d, e, hx, hy, hd, q⟩ := h
  exact Hi I hx hy rx ry (by omega) X.prog X.w X.xe _ ⟨.bl _, H, I, rfl, q⟩
theorem Hl (hu : X.A.units + 64 < cLine) : OpR X (compareOp .NotEq) (B4 true) := by
  intro pins s σ H x y v u Q I rx ry h
  obtain ⟨d, e, hx, hy, hd, q⟩ := h
  exact Hj I hx hy rx ry (by omega) X.prog X.w X.xe _ ⟨.bl _, H, I, rfl, q⟩
end
theorem zI : bootBuiltins "set" = some (.type "set") := by decide +kernel
theorem ra : bootBuiltins "sorted" = some (.builtin "sorted") := by decide +kernel
section
variable {X : Cx}
noncomputable def zJ (K : PySem.W.Frag) (H : Hp) (p : Addr) (ns : List Int) : Prop := a8 K H p (ns.map V.int) ∨ cB K H p (ns.map V.int)
noncomputable def tU (P : Program) (w : World) (K : PySem.W.Frag) : List V → Hp → VK → Prop := fun xs H Q => ∃ p ns, xs = [.ref p] ∧ zJ K H p ns ∧ ns.length + 1 < scanBound ∧ ∀ l, H l = none → Q (.ref l) (upd H l (fw P w l (c6 ns)))
theorem tV {ns : List Int} {us : List Value} (r : Vals (ns.map V.int) us) : ∀ (i : Nat) (v : Value), us.toArray[i]? = some v → ∃ m t, ns[i]? = some m ∧ v = .int m t := fun i v h => by
  have hl := r.length
  have h' : us[i]? = some v := by simpa using h
  have hi : i < us.length := (List.getElem?_eq_some_iff.mp h').1
  have gz : i < ns.length := by rw [List.length_map] at hl; omega
  obtain ⟨u, e, q⟩ := r.get (i := i) (x := V.int ns[i]) (by rw [List.getElem?_map, List.getElem?_eq_getElem gz]; rfl)
  rw [h'] at e; cases e
  obtain ⟨t, rfl⟩ := q
  exact ⟨_, t, List.getElem?_eq_getElem gz, rfl⟩
theorem zK (hc : X.calm = true) : cq X (.type "set") (tU X.prog X.w X.K) := by
  intro pins s σ H xs us Q I r h
  obtain ⟨p, ns, rfl, hq, hb, q⟩ := h
  obtain ⟨u, rfl, rx⟩ := vals1 r
  cases rx
  have fin : ∀ (h' : Heap) (tk : Nat), bQ X.prog X.w h' s.heap.objs.size (c6 ns) → (∀ b o, s.heap.get? b = some o → h'.get? b = some o) → EP X pins σ Q (.ref s.heap.objs.size) { s with heap := h', toks := tk } := fun h' tk hM hk =>
    ⟨.ref s.heap.objs.size, _, I.laid (t' := tk) hk (Nat.le_refl _) (qg hM), rfl, q _ (I.hok.fresh (Nat.le_refl _))⟩
  have hh := I.ok.hd hc
  rcases hq with hq | hq
  · obtain ⟨its, rv, pl, hz⟩ := I.list hq
    have hl : its.toArray.size = ns.length := by rw [List.size_toArray, ← rv.length, List.length_map]
    obtain ⟨o, ho, ft, n, hd⟩ := pl.isList
    refine mr (T := "list") (vs := ns) (itob := { cls := .type "list_iterator", data := .fields #[.ref p, .int 0 0] }) (Pv := fun i v => its.toArray[i]? = some v) (St := fun I i h => h.IsListIter I p i ∧ h.IsList p its.toArray) hh ⟨o, ho⟩ (fun s1 k => ⟨o, k o ho, ft⟩) F.sub_list_set F.sub_list_frozenset (by decide)
      (fun A' s1 Q' E' k Hm => wpAny_pyIter_list ⟨o, k o ho, ft, n, hd⟩ Hm) (fun A' I' hA ji => hl ▸ Walks.list hA I' p ji its.toArray) (fun h1 k => ⟨⟨_, Heap.get?_push_size _ rfl, rfl, rfl⟩, ⟨o, Heap.get?_push_of_some _ (k o ho), ft, n, hd⟩⟩) (tV rv) hb fin
  · obtain ⟨its, rv, pl, hz⟩ := I.tuple hq
    have hl : its.toArray.size = ns.length := by rw [List.size_toArray, ← rv.length, List.length_map]
    obtain ⟨o, ho, ft, n, hd⟩ := pl
    refine mr (T := "tuple") (vs := ns) (itob := { cls := .type "tuple_iterator", data := .fields #[.ref p, .int 0 0] }) (Pv := fun i v => its.toArray[i]? = some v) (St := fun I i h => h.IsTupleIter I p i ∧ h.IsTuple p its.toArray) hh ⟨o, ho⟩ (fun s1 k => ⟨o, k o ho, ft⟩) sub_tuple_set qf (by decide)
      (fun A' s1 Q' E' k Hm => wpAny_pyIter_tuple ⟨o, k o ho, ft, n, hd⟩ Hm) (fun A' I' hA ji => hl ▸ Walks.tuple hA I' p ji its.toArray) (fun h1 k => ⟨⟨_, Heap.get?_push_size _ rfl, rfl, rfl⟩, ⟨o, Heap.get?_push_of_some _ (k o ho), ft, n, hd⟩⟩) (tV rv) hb fin
noncomputable def DF (P : Program) (w : World) : List V → Hp → VK → Prop := fun xs H Q => ∃ p ns, xs = [.ref p] ∧ H p = some (fw P w p ns) ∧ Q (.int ns.length) H
theorem zL : cq X (.builtin "len") (DF X.prog X.w) := by
  intro pins s σ H xs us Q I r h
  obtain ⟨p, ns, rfl, hp, q⟩ := h
  obtain ⟨u, rfl, rx⟩ := vals1 r
  cases rx
  obtain ⟨o, es, ep, t, ho, hex, hd, jo, Om, hn, hb, hf, ht⟩ := qh I hp
  have hlen : es.size = ns.length := by rw [← Array.length_toList, ← Om.length_eq, List.length_map]
  have fG : es.size < 4096 := hb
  refine call_len_set ho hex hd hf (by omega) ⟨.int ns.length, H, I.tok _, ⟨_, by rw [hlen]⟩, q⟩
noncomputable def we (P : Program) (w : World) (K : PySem.W.Frag) : List V → Hp → VK → Prop := fun xs H Q => ∃ p ns, xs = [.ref p] ∧ (H p = some (fw P w p ns) ∨ zJ K H p ns) ∧ ns.length < 64 ∧ ∀ l, H l = none → Q (.ref l) (upd H l (.lst ((sortI ns).map V.int)))
theorem tW (hc : X.calm = true) : cq X (.builtin "sorted") (we X.prog X.w X.K) := by
  intro pins s σ H xs us Q I r h
  obtain ⟨p, ns, rfl, hq, Hf, q⟩ := h
  obtain ⟨u, rfl, rx⟩ := vals1 r
  cases rx
  have hh := I.ok.hd hc
  refine xE (ns := ns) (fun QL Hn => ?_) Hf (fun h1 h' d' tk us e hI k1 k2 he => ?_)
  · rcases hq with hq | hq | hq
    · exact vi (by simp [hh]) (qh I hq) (by have : sizeLine = 16777216 := sizeLine_eq; omega) Hn
    · obtain ⟨its, rv, pl, hz⟩ := I.list hq
      have hl := rv.length
      obtain ⟨o, ho, ft, n, hd⟩ := pl.isList
      exact nT ho ft hd (.inl rfl) (fun h' k => Hn its ns h' s.drawn s.toks (xD rv) (.refl _) k) (by omega)
    · obtain ⟨its, rv, pl, hz⟩ := I.tuple hq
      have hl := rv.length
      obtain ⟨o, ho, ft, n, hd⟩ := pl
      exact nT ho ft hd (.inr rfl) (fun h' k => Hn its ns h' s.drawn s.toks (xD rv) (.refl _) k) (by omega)
  · have I1 : Inv X pins σ H { s with heap := h1, drawn := d' } := (I.kept (t' := s.toks) k1).j2 ⟨rfl, rfl, I.bare.self⟩
    have hsz : sizeLine = 16777216 := sizeLine_eq
    have ob : ObjOk X.prog X.w (upd H h1.objs.size (.lst ((sortI ns).map V.int))) h' h1.objs.size (.lst ((sortI ns).map V.int)) := ⟨by rw [List.length_map, (sortI_perm ns).length_eq]; omega, us, e, my hI, he⟩
    exact ⟨.ref h1.objs.size, _, I1.laid (t' := tk) k2 (Nat.le_refl _) ob, rfl, q _ (I1.hok.fresh (Nat.le_refl _))⟩
noncomputable def Hq : V → List V → Hp → VK → Prop := fun x vs H Q => ∃ a b i rest, x = .str a ∧ vs = [.str b] ∧ Builtin.Str.occurrences a b 0 a.length 1 = i :: rest ∧ Q (.int (i : Nat)) H
theorem B5 : Dr X "str.index" Hq := by
  intro pins s σ H x vs v us Q I rx rv h
  obtain ⟨a, b, i, rest, rfl, rfl, ho, q⟩ := h
  obtain ⟨t, rfl⟩ := rx
  obtain ⟨u, rfl, ru⟩ := rv.one
  obtain ⟨t', rfl⟩ := ru
  exact SC.index ho ⟨.int i, H, I.tok _, ⟨_, rfl⟩, q⟩
end
section
variable {P : Program} {w : World} {A : Around} {E : Value → Shared → Prop} {s : Shared}
theorem rQ {QL : List Value → Shared → Prop} {r : Addr} {a b c : Int} {t u v : Tok} {n : Nat} (hh : A.handled = none) (hr : IsRange s.heap r a b c t u v) (Hr : Builtin.Range.small a b c = true)
    (hn : Builtin.Range.rangeSize a b c = n) (hlen : n ≤ 2 ^ 24)
    (hQ : ∀ acc h' tk, ItemsOf (fun i v => ∃ t, v = .int (a + i * c) t) acc n → (∀ b o, s.heap.get? b = some o → h'.get? b = some o) → QL acc.toList { s with heap := h', toks := tk }) : wpAny (model P w) A (collect (.ref r)) QL E s := by
  unfold collect
  refine wpAny_bind (wpAny_runValue (codeAny_builtin F.entry_proto_collect ?_))
  rw [Around.under_plainId F.plain_proto_collect _]
  show wpAny _ A.in1 (newList [] >>= fun l => again (.builtin "list.__iadd__" ⟨[l, .ref r], []⟩)) _ _ s
  refine wpAny_bind (wpAny_newObj_type ?_)
  refine wpAny_pure ⟨plainId_quiet F.plain_list_iadd _, codeAny_builtin F.entry_list_iadd ?_⟩
  rw [Around.under_plainId F.plain_list_iadd _]
  show wpAny _ A.in1 (Builtin.List.listExtendWith (.ref s.heap.objs.size) (.ref r) (.ref s.heap.objs.size)) _ _ _
  refine wpAny_extend_range (R := fun r s' => match r with
              | Except.ok (Flow.ret v) =>
                wpAny (model P w) A
                  (match v with
                  | Value.ref a => do
                    let __do_lift ← load a
                    match __do_lift.data with
                      | Data.seq xs PU => pure xs.toList
                      | x => unsupported "internal:collect"
                  | x => unsupported "internal:collect")
                  QL E s'
              | Except.ok a => False
              | Except.error e => E e s') (s := { s with heap := s.heap.push { cls := .type "list", data := .seq ([] : List Value).toArray } }) hh (Heap.get?_push_of_some _ hr) Hr hn hlen _ _ 0 (Heap.get?_push_size _ rfl) fun h' tk mj c' hk h8 js => ?_
  show wpAny _ A (load s.heap.objs.size >>= _) _ _ _
  refine wpAny_bind (wpAny_load h8 ?_)
  exact wpAny_pure (hQ mj h' tk js fun b o e => hk b o (Nat.ne_of_lt (Heap.lt_size e)) (Heap.get?_push_of_some _ e))
theorem mC {Q₁ : Value → Shared → Prop} {QL : List Value → Shared → Prop} {I : Addr} (hT : s.TypeIs (.ref I) "range")
    (W : wpAny (model P w) A.in1 (collect (.ref I)) QL E s) (hsz : ∀ us s', QL us s' → us.length ≤ sizeLine)
    (h : ∀ us s', QL us s' → Q₁ (.ref s'.heap.objs.size) { s' with heap := s'.heap.push { cls := .type "tuple", data := .seq us.toArray } }) :
    codeAny (model P w) A (.call (.builtin "tuple.__new__") ⟨[.type "tuple", .ref I], []⟩) (wants Q₁ E) s := by
  refine codeAny_of_tree ?_
  show wpAny _ A.in1 (do checkBuiltinCall "tuple.__new__" ⟨[.type "tuple", .ref I], []⟩; again (.builtin "tuple.__new__" ⟨[.type "tuple", .ref I], []⟩)) _ _ s
  refine wpAny_bind (wpAny_of_eq (F.newCall_tuple_1 _) (wpAny_pure ⟨plainId_quiet F.plain_tuple_new _, codeAny_builtin F.entry_tuple_new ?_⟩))
  rw [Around.under_plainId F.plain_tuple_new _]
  have j4 := sub_tuple_self
  have JB := init_tuple_lookup
  have N8 := madeHere_tuple
  wp_walk using wpAny_typeOf hT, wpAny_mono W
  · intro us s' hq
    show wpAny _ _ (Builtin.Tuple.tupleExact us.toArray >>= fun v => ret v) _ _ _
    unfold Builtin.Tuple.tupleExact
    refine wpAny_bind (wpAny_newObj_type ?_ (by show us.toArray.size ≤ sizeLine; rw [List.size_toArray]; exact hsz us s' hq))
    exact wpAny_pure (h us s' hq)
  · exact fun _ _ z => z
end
noncomputable def bg (n : Nat) : List Int := (List.range n).map fun i => ((i : Nat) : Int)
section
variable {X : Cx}
theorem rR {e : Expr} {te : TE} {p p1 p2 pos : Pos} (hc : X.calm = true) (hg : Gl X "tuple") (hm : X.mg "tuple" = none) (nP : Gl X "range") (zf : X.mg "range" = none) (he : PE X e te) (hs : starEach [e] X.env = [(false, eval e X.env)] := by rfl) :
    PE X (.Call (.Name "tuple" p) [.Call (.Name "range" p1) [e] [] p2] [] pos) (fun σ H Q => te σ H fun x H1 => ∃ j : Int, x = .int j ∧ -(2 ^ 20) ≤ j ∧ j ≤ 2 ^ 20 ∧ ∀ l, H1 l = none → Q (.ref l) (upd H1 l (.tup ((bg j.toNat).map V.int)))) := by
  refine ⟨?_⟩
  intro pins s σ H Q I h
  refine wpAny_Call_Name_kw (fE I hg hm dU ?_)
  refine PyProof.Rows.callWith_type1 ?_ rfl rfl
  show wpAny _ _ (spliced ((false, eval (.Call (.Name "range" p1) [e] [] p2) X.env) :: [])) _ _ s
  refine Calls.spliced_cons ?_
  refine Call_ (fE I nP zf boot_range (PyProof.Rows.callWith_type1 ?_ hs rfl))
  rw [hs]
  refine Calls.spliced_cons (thn (he pins s σ H _ I h) fun v s1 ⟨x, H1, I1, r1, q1⟩ => Calls.spliced_nil ?_)
  obtain ⟨j, rfl, b1, b2, q⟩ := q1
  obtain ⟨t, rfl⟩ := r1
  refine call_range_1 ?_
  refine Calls.spliced_nil ?_
  have hh := I1.ok.hd hc
  have I2 : Inv X pins σ H1 { s1 with heap := s1.heap.push { cls := .type "range", data := .fields #[.int 0 s1.toks, .int j t, .int 1 (s1.toks + 1)] }, toks := s1.toks + 1 + 1 } := I1.kept fun b o e => Heap.get?_push_of_some _ e
  generalize K2 : ({ s1 with heap := s1.heap.push { cls := .type "range", data := .fields #[.int 0 s1.toks, .int j t, .int 1 (s1.toks + 1)] }, toks := s1.toks + 1 + 1 } : Shared) = s2 at I2 ⊢
  have jP : IsRange s2.heap s1.heap.objs.size 0 j 1 s1.toks t (s1.toks + 1) := by rw [← K2]; exact IsRange.new ..
  have hT : s2.TypeIs (.ref s1.heap.objs.size) "range" := by
    rw [← K2]; exact ⟨_, Heap.get?_push_size _ rfl, rfl⟩
  refine callType_codes (Q₁ := fun obj au => au.TypeIs obj "tuple" ∧ EP X pins σ Q obj au) F.called_tuple (F.typeCall_tuple_1 _) F.entry_object_init
    (mC (QL := fun us s' => us.length ≤ sizeLine ∧ Inv X pins σ H1 s' ∧ Vals ((bg j.toNat).map V.int) us) hT
      (rQ (n := j.toNat) (by simp [hh]) jP (small_one (by omega) (by omega) (by omega) (by omega)) (by rw [PyProof.Rows.rangeSize_nat]; simp) (by omega) fun acc h' tk hit hk => ?_) (fun us s' q => q.1) fun us s' ⟨hl, I', rv⟩ => ⟨⟨_, Heap.get?_push_size _ rfl, rfl⟩, ?_⟩) fun obj au dy => ?_
  · have hsz : sizeLine = 16777216 := sizeLine_eq
    refine ⟨by rw [Array.length_toList, hit.1]; omega, I2.kept hk, ?_⟩
    refine j3 (by have := hit.1; simp [bg]; omega) fun i v e => ?_
    have hi : i < j.toNat := by
      have := (List.getElem?_eq_some_iff.mp e).1
      simpa [bg] using this
    have K3 : i < acc.size := by rw [hit.1]; exact hi
    obtain ⟨t2, e4⟩ := hit.2 i acc[i] (by simp [K3])
    refine ⟨acc[i], by simp [K3], ?_⟩
    have e5 : v = V.int (i : Nat) := by
      have : ((bg j.toNat).map V.int)[i]? = some (V.int (i : Nat)) := by simp [bg, hi]
      rw [this] at e; exact (Option.some.inj e).symm
    rw [e4, e5]
    exact ⟨t2, by simp⟩
  · have I3 : Inv X pins σ (upd H1 s'.heap.objs.size (.tup ((bg j.toNat).map V.int))) { s' with heap := s'.heap.push { cls := .type "tuple", data := .seq us.toArray } } :=
      I'.laid (t' := s'.toks) (fun b o e => Heap.get?_push_of_some _ e) (Nat.le_refl _) (show ObjOk X.prog X.w _ _ _ (.tup _) from ⟨by rw [rv.length]; exact hl, us, rv, ir.new _ _⟩)
    exact ⟨.ref s'.heap.objs.size, _, I3, rfl, q _ (I'.hok.fresh (Nat.le_refl _))⟩
  · exact ⟨dy.1, F.args_object_init_2 obj _, object_init_meets F.called_tuple.init.lookup F.called_tuple.made (by decide) X.prog X.w X.A.in1 _ au ⟨dy.1, rfl, dy.2⟩⟩
theorem xH {K : PySem.W.Frag} (h : X.K = K) (hc : X.calm = true) : cq X (.type "set") (tU X.prog X.w K) := h ▸ zK hc
end
theorem bq.over {H H' : Hp} {D : Addr} {o : HO} (k : bq H H') (hD : H D = none) : bq H (upd H' D o) := fun b u e => by
  rw [ae (av e hD)]
  exact k b u e
theorem ObjOk.there {P : Program} {w : World} {H : Hp} {h : Heap} {a : Addr} {o : HO} (x : ObjOk P w H h a o) : ∃ u, h.get? a = some u := by
  cases o with
  | lst xs => obtain ⟨_, _, _, _, e⟩ := x; exact ⟨_, e⟩
  | tup xs => obtain ⟨_, _, _, ob, e, _⟩ := x; exact ⟨_, e⟩
  | dK ao => obtain ⟨_, _, _, _, o, _, _, e, _⟩ := x; exact ⟨_, e⟩
  | dT ao => obtain ⟨_, _, _, _, o, _, _, e, _⟩ := x; exact ⟨_, e⟩
  | set S n => obtain ⟨o, _, _, _, e, _⟩ := x; exact ⟨_, e⟩
  | ins C dx fs => obtain ⟨_, _, _, e, _⟩ := x; exact ⟨_, e⟩
  | own y => obtain ⟨_, e⟩ := x; exact ⟨_, e⟩
  | xd fs => obtain ⟨_, ⟨_, _, _, e, _⟩, _⟩ := x; exact ⟨_, e⟩
  | rng lo hi => obtain ⟨_, _, _, e⟩ := x; exact ⟨_, e⟩
  | fm ob u => obtain ⟨e, _⟩ := x; exact ⟨_, e⟩
  | cf ps => exact ⟨_, x⟩
  | lam ps => exact ⟨_, x⟩
  | met f y => exact ⟨_, x⟩
  | ext φ => obtain ⟨_, ⟨_, e⟩, _⟩ := x; exact ⟨_, e⟩
noncomputable def cC (P : Program) (w : World) : j9 := fun outer H s E e s' => ∃ (a C t : Addr) (B : Heap) (H' : Hp), e = .ref a ∧ s'.os = s.os ∧ Gn s.gens.size s'.gens ∧ Heap.FlyingW B outer a (.ref C) (.ref t) s'.heap ∧
  (∀ b o, s.heap.get? b = some o → b ∉ fo outer → ∃ o', B.get? b = some o') ∧ (∀ b u, H' b = some u → ∃ o', B.get? b = some o') ∧ Un (fo outer) [] H H' s.heap s'.heap ∧ cJ P w H' s'.heap ∧ E (.ref C) none H'
section
variable {X : Cx} {pins : List (Addr × Obj)} {σ : St} {H H1 : Hp} {s s1 : Shared} {B h' : Heap}
theorem Inv.mD (I : Inv X pins σ H s) {b : Addr} (h1 : b ≠ X.env.locals) (h2 : b ∉ X.fs) : b ∉ fo X.stack := fun z => by
  rcases List.mem_cons.mp (I.g8 b z) with q | q
  · exact h1 q
  · exact h2 q
theorem Inv.kT (I : Inv X pins σ H s) {b : Addr} {o : Obj} (e : X.s₀.heap.get? b = some o) : b ≠ X.env.locals := fun z => by
  have l := Heap.lt_size e
  have := I.ok.above
  rw [← z] at this
  exact absurd l (Nat.not_lt.mpr this)
theorem Inv.DG (I1 : Inv X pins σ H1 s1) (I : Inv X pins σ H s) (c1 : ∀ b o, s1.heap.get? b = some o → b ∉ fo X.stack → ∃ o', B.get? b = some o') (c2 : ∀ b u, H b = some u → ∃ o', B.get? b = some o')
    (k : B.StaysIn s.heap) (k' : B.StaysIn h') (up : s.heap.UpToSlots h') : Inv X pins σ H { s with heap := h' } := by
  have same : ∀ b o', (∃ o2, B.get? b = some o2) → s.heap.get? b = some o' → h'.get? b = some o' := fun b o' ⟨o2, e⟩ q => by
    have z := k b o2 e
    rw [q] at z
    cases z
    exact k' b _ e
  refine ⟨I.ok, I.os, I.bare, ⟨fun b o q n hb hx => ?_, fun b o q n hb hx => ?_, I.base.free, fun b o q hx => ?_, I.base.tups, I.base.frzs, I.base.tbls⟩, ?_, fun x c e => ?_, I.free, I.freeC, fun p hp => ?_, fun a o e => ?_, I.len⟩
  · exact same b o (c1 b o (I1.base.keep b o q n hb hx) (I.mD (I.kT q) hb)) (I.base.keep b o q n hb hx)
  · obtain ⟨sl, e⟩ := I.base.slot b o q n hb hx
    obtain ⟨_, o2, e2, nf⟩ := I.funs.mem hb
    rw [e] at e2
    cases e2
    obtain ⟨qO, e4⟩ := up b { o with slots := sl } e nf
    exact ⟨qO, e4⟩
  · obtain ⟨o', e⟩ := I.base.there b o q hx
    by_cases hb : b ∈ X.fs
    · obtain ⟨_, o2, e2, nf⟩ := I.funs.mem hb
      obtain ⟨sl, e3⟩ := up b _ e2 nf
      exact ⟨_, e3⟩
    · obtain ⟨o1, q1⟩ := I1.base.there b o q hx
      exact ⟨o', same b o' (c1 b o1 q1 (I.mD (I.kT q) hb)) e⟩
  · obtain ⟨m, hn, hl⟩ := I.loc
    refine ⟨m, up.ns hn, fun i x v a b c => ?_⟩
    obtain ⟨u, r, l⟩ := hl i x v a b c
    refine ⟨u, r, ?_⟩
    rcases l with l | ⟨kd, c, ec, o, ho, hd⟩
    · exact .inl l
    · obtain ⟨sl, e⟩ := up c o ho fun vs z => by rw [hd] at z; cases z
      exact .inr ⟨kd, c, ec, _, e, hd⟩
  · obtain ⟨v, o, ho, hd⟩ := I.cell x c e
    obtain ⟨sl, e⟩ := up c o ho fun vs z => by rw [hd] at z; cases z
    exact ⟨v, _, e, hd⟩
  · obtain ⟨p1, p2, p3, p4, p5⟩ := I.pin p hp
    exact ⟨same p.1 p.2 (c1 p.1 p.2 (I1.pin p hp).1 (I.mD p3 p4)) p1, p2, p3, p4, p5⟩
  · refine (I.hok a o e).cp (fun b u hb q => ?_) (fun _ q => q) fun _ _ q => q
    rcases hb with z | z
    · exact same b u (c2 b o (by rw [z]; exact e)) q
    · exact same b u (c2 b _ z) q
end
section
variable {P : Program} {w : World} {K : PySem.W.Frag} {mg : Str → Option Value} {base : Heap} {N : List Str} {qual : Str} {scope : Scope} {f : Addr} {cd : Value} {A : Around} {outer : List Env} {s0 : Shared} {H0 : Hp} {E : XK}
theorem gZ : Passes (cC P w) (fu (cC P w) P w K mg base N qual scope f cd A outer s0 H0 E) E := by
  intro pins σ H s e s' I h
  obtain ⟨a, C, t, B, H', rfl, os, gn, fl, c1, c2, un, hok, q⟩ := h
  have I' := I.oH (ch := []) os un hok gn (fun b z => absurd z (by simp))
  refine wpAny_leaves_onW (cls := .ref C) (a0 := .ref t) I.ok.frames rfl fl fun h' DH up => ?_
  have I2 := I.DG I' c1 c2 fl.1 DH.1 up
  refine ⟨a, C, t, B, H', rfl, I2.os, I2.bare, DH, fun b o e n => ?_, c2, I2.base, I2.hok, q⟩
  obtain ⟨o1, e1⟩ := I.base.there b o e (fun z => absurd (show b ∈ ([] : List Addr) from z) (by simp))
  exact c1 b o1 e1 (I.mD (I.kT e) n)
noncomputable def Raises (X : Cx) (E : XK) : Prop := ∀ (pins : List (Addr × Obj)) (σ : St) (H : Hp) (s : Shared) (C : Addr) (h' : Heap) (a : Addr) (vs : List Value), Inv X pins σ H s → Heap.MadeExcOf s.heap h' a (.ref C) vs → E (.ref C) none H → X.xe (.ref a) { s with heap := h' }
theorem tX : Raises (fu (cC P w) P w K mg base N qual scope f cd A outer s0 H0 E) E := by
  intro pins σ H s C h' a vs I hx q
  have c1 : ∀ b o, s.heap.get? b = some o → b ∉ fo (fu (cC P w) P w K mg base N qual scope f cd A outer s0 H0 E).stack → ∃ o', (PySem.W.hideAll s.heap (fo (fu (cC P w) P w K mg base N qual scope f cd A outer s0 H0 E).stack)).get? b = some o' :=
    fun b o e n => ⟨o, PySem.W.hideAll_get _ e n⟩
  have c2 : ∀ b u, H b = some u → ∃ o', (PySem.W.hideAll s.heap (fo (fu (cC P w) P w K mg base N qual scope f cd A outer s0 H0 E).stack)).get? b = some o' := fun b u hu => by
    obtain ⟨o, e⟩ := (I.hok b u hu).there
    exact c1 b o e fun z => by rw [I.pV b z] at hu; cases hu
  have st : (PySem.W.hideAll s.heap (fo (fu (cC P w) P w K mg base N qual scope f cd A outer s0 H0 E).stack)).StaysIn s.heap := fun b o e => PySem.W.of_hideAll _ e
  refine wpAny_leaves_madeW (cls := .ref C) I.ok.frames rfl st (PySem.W.funFrames_hide I.stack fun env he b hb => List.mem_filterMap.mpr ⟨env, he, hb⟩) hx fun Qf t fl _ _ up => ?_
  have I2 := I.DG I c1 c2 st fl.1 ((Heap.UpToSlots.of_keeps hx.keeps).trans up)
  refine ⟨a, C, t, _, H, rfl, I2.os, I2.bare, fl, fun b o e n => ?_, c2, I2.base, I2.hok, q⟩
  obtain ⟨o1, e1⟩ := I.base.there b o e (fun z => absurd (show b ∈ ([] : List Addr) from z) (by simp))
  exact c1 b o1 e1 (I.mD (I.kT e) n)
end
theorem EC {K : PySem.W.Frag} {h : Heap} {C : Addr} {rg : List Value} {newId : String} (X : K.In h) (q : PySem.W.excIn K C rg newId = true) :
    ∃ bm Nn nm qn bs hd sn sub ab col dd k0 k1 k2 k3 k5 mN, h.get? C = some (excClassObj nm qn C Nn bs bm hd sn sub ab col dd k0 k1 k2 k3 k5 newId) ∧ h.Ns Nn mN ∧ mN "__init__" = none ∧ OwnTail h rg bm := by
  unfold PySem.W.excIn at q
  split at q
  case h_2 => cases q
  case h_1 dd cd sl ho =>
    split at q
    case h_2 => cases q
    case h_1 C' bm k0 k1 k2 k3 n k5 hm hs =>
      rw [Bool.and_eq_true, Bool.and_eq_true, Bool.and_eq_true, Bool.and_eq_true, Bool.and_eq_true] at q
      obtain ⟨⟨⟨⟨⟨q1, q2⟩, q3⟩, q4⟩, q5⟩, q6⟩ := q
      have e1 : C' = C := beq_iff_eq.mp q1
      have e2 : n = newId := beq_iff_eq.mp q2
      have e3 : cd.hasDel = false := by simpa using q3
      subst e1 e2
      obtain ⟨nm, bs, mro, ns, qn, hd, sn, sub, ab, col, del⟩ := cd
      dsimp only at hm e3 q5 q6
      subst hm e3
      have es : sl = #[k0, k1, k2, k3, some (.builtin n), k5] := by
        cases sl with
        | mk l => exact congrArg Array.mk hs
      subst es
      exact ⟨bm, ns, nm, qn, bs, hd, sn, sub, ab, col, dd, k0, k1, k2, k3, k5, _, X _ _ ho, Heap.Ns.of_isNs (PySem.W.isNs_of_in X q5), PySem.W.nsMap_none_of_in X q5 (beq_iff_eq.mp q6), PySem.W.tail_of_in X q4⟩
section
variable {X : Cx} {x : Str} {C : Addr} {j5 : Expr} {rest : List Expr} {t : TA} {rg : List Value} {B newId tY : String} {E : XK} {np bG pos : Pos}
noncomputable def Ht (C : Addr) (E : XK) (t : TA) : TS := fun _ σ H => t σ H fun vs H1 => vs.length ≤ sizeLine ∧ E (.ref C) none H1
theorem B6 (O : PySem.W.excIn X.K C rg newId = true) (FB : ExcBaseFacts B newId tY rg) (hc : X.calm = true) (hR : Raises X E) (hg : Gl X x) (hm : X.mg x = some (.ref C)) (ha : PA X (j5 :: rest) t)
    (gj : (x == ("__debug__" : Str)) = false := by decide) (he : starEach (j5 :: rest) X.env = (false, eval j5 X.env) :: starEach rest X.env := by rfl) (eQ : (backTo bG (starEach rest X.env)).any (·.1) = false := by rfl) :
    PS X (.Raise (some (.Call (.Name x np) (j5 :: rest) [] bG)) none pos) (Ht C E t) := by
  refine ⟨fun pins s σ H D I h => ?_⟩
  obtain ⟨bm, Nn, nm, qn, bs, hd, sn, sub, ab, col, dd, k0, k1, k2, k3, k5, mN, hC, hN, Oo, T⟩ := EC I.ok.mod.kin O
  have hp : (backTo bG (starEach (j5 :: rest) X.env)).any (·.1) = false := by
    rw [he]
    exact eQ
  have K4 := ha bG pins s σ H _ I h
  rw [he] at K4
  refine wpAny_Raise_call_subT (C := C) (nm := nm) (q := qn) (N := Nn) (bs := bs) (bm := bm) (hdct := hd) (sn := sn) (sub := sub) (ab := ab) (col := col) (dd := dd) (k0 := k0) (k1 := k1) (k2 := k2) (k3 := k3) (k5 := k5) FB (mN := mN)
    (T.hasType FB.hasBase) (I.ok.hd hc) hp Oo (nu I hg hm ⟨rfl, ?_⟩ gj)
  rw [he]
  refine Calls.evalArgs_plain (thn K4 fun us s2 ⟨vs, H2, I2, r, l, q⟩ => ?_)
  exact ⟨rfl, by rw [← r.length]; exact l, I2.bk _ _ hC, hN.keeps I2.bk, T.keeps I2.bk, fun h' a hx => hR pins σ H2 s2 C h' a us I2 hx q⟩
end
end L2
namespace L2
open PySem PySem.Spec PyProof.Rows PySem.W Builtin Builtin.ObjectAttr Builtin.Getset_descriptor
noncomputable def ExcAt (C a : Addr) (h : Heap) : Prop := ∃ o vs, h.get? a = some o ∧ o.cls = .ref C ∧ o.data = .fields vs
noncomputable def og (C a : Addr) : HO := .ext (ExcAt C a)
theorem ExcAt.cp {C a : Addr} {h h' : Heap} (x : ExcAt C a h) (k : ∀ o, h.get? a = some o → h'.get? a = some o) : ExcAt C a h' := let ⟨o, vs, e, c, d⟩ := x; ⟨o, vs, k o e, c, d⟩
theorem ED {P : Program} {w : World} {H : Hp} {h : Heap} {C a : Addr} (x : ExcAt C a h) : ObjOk P w H h a (og C a) := ⟨x, let ⟨o, _, e, _⟩ := x; ⟨o, e⟩, fun _ _ y k => y.cp k⟩
structure ee (K : Frag) (C : Addr) : Prop where
  cls : (clsIn K C).isSome = true
  ga : findIn K (.ref C) "__getattribute__" = some (some (.builtin "BaseException.__getattribute__"))
  gt : findIn K (.ref C) "__getattr__" = some none
  cl : findIn K (.ref C) "__class__" = some (some (.builtin "object.__class__"))
  gg : specialIn K (.builtin "object.__class__") "__get__" = some (some (.builtin "getset_descriptor.__get__"))
  tk : takesIn K (.builtin "object.__class__") = some true
  ob : mroIn K C (.type "object") = some true
  be : mroIn K C (.type "BaseException") = some true
section
variable {K : Frag} {C a : Addr} {M : Model} {h : Heap}
theorem ju (x : ExcAt C a h) : Looks M h (typeOf (.ref a)) (.ref C) := by
  obtain ⟨o, vs, h1, h2, h3⟩ := x
  exact h2 ▸ (Looks.ld h1).andThen .now
theorem B7 (X : K.In h) (E : ee K C) : Looks M h (find (.ref a) (.ref C) "__class__") (.bind (.builtin "getset_descriptor.__get__") (.builtin "object.__class__")) := by
  refine (looks_findIn X E.cl).andThen (Looks.andThen (show Looks M h (getOf (some (.builtin "object.__class__"))) (some (.builtin "getset_descriptor.__get__")) from looks_specialIn X E.gg) ?_)
  have l3 : Looks M h (dataDescriptor? (some (.builtin "object.__class__")) (some (.builtin "getset_descriptor.__get__"))) (some (.builtin "getset_descriptor.__get__", .builtin "object.__class__")) := (looks_takesIn X E.tk).andThen .now
  exact l3.andThen (Looks.tag .now)
theorem xI (X : K.In h) (E : ee K C) : Looks M h (isType (.ref C)) true := by
  have z := E.cls
  unfold clsIn at z
  split at z
  case h_2 => cases z
  case h_1 ho =>
    intro A Q E s k q
    unfold isType loadHead
    exact wpAny_bind (m := loadPart _ _) (wpAny_loadPart (k _ _ (X _ _ ho)) (wpAny_pure q))
theorem zM (X : K.In h) (E : ee K C) {tp : Addr} {dd : Option Addr} {its : List Value} {n : Nat} {sl : Array (Option Value)} (e : h.get? tp = some ⟨.type "tuple", dd, .seq its.toArray n, sl⟩) : (Value.ref C == Value.ref tp) = false := by
  refine Bool.eq_false_iff.mpr fun q => ?_
  cases Value.ref.inj (beq_iff_eq.mp q)
  have z := E.cls
  unfold clsIn at z
  split at z
  case h_2 => cases z
  case h_1 ho => cases (X _ _ ho).symm.trans e
end
section
variable {K : Frag} {C a : Addr} {prog : Program} {w : World} {A : Around} {s : Shared} {R : Result → Shared → Prop} {EE : Value → Shared → Prop}
theorem rS {tp : Value} (X : K.In s.heap) (E : ee K C) (x : ExcAt C a s.heap) (q : R (.ok (.ret (.ref C))) s) : codeAny (model prog w) A (.call (.builtin "getset_descriptor.__get__") ⟨[.builtin "object.__class__", .ref a, tp], []⟩) R s := by
  obtain ⟨hh, g, dr, t, os⟩ := s
  have L0 := ju (M := model prog w) x
  have L1 := looks_mroIn (M := model prog w) X E.ob
  have ck := KF.slot_gs.check (model prog w)
  refine codeAny_call_builtin KF.slot_gs.plain KF.entry_gs (ck _ _ _ _ _ _ _ KF.type_class (KF.args_gs _ _ _) ?_)
  unfold Builtin.«getset_descriptor.__get__» descrGet
  rw [dga_obj]
  refine wpAny_bind (m := pure _) (wpAny_pure ?_)
  unfold descrGetter descrCheckInstance descrNameAndClass
  unfold isInstance
  simp only [KF.owner_class]
  repeat lk
  refine ⟨Code.quiet_builtin _ (by decide +kernel), codeAny_builtin KF.entry_class ?_⟩
  unfold Builtin.«object.__class__»
  unfold shownTypeOf
  repeat lk
  exact q
theorem tZ {nv : Value} {Q : Unit → Shared → Prop} (X : K.In s.heap) (E : ee K C) (x : ExcAt C a s.heap) (q : Q () s) : wpAny (model prog w) A (checkBuiltinCall "BaseException.__getattribute__" ⟨[.ref a, nv], []⟩) Q EE s := by
  have e1 : builtinKind "BaseException.__getattribute__" = some .slot := by decide +kernel
  have e2 : splitId "BaseException.__getattribute__" = some ("BaseException", "__getattribute__") := by decide +kernel
  have PV := F.args_bexc_ga (.ref a) nv
  have L0 := ju (M := model prog w) x
  have L1 := looks_mroIn (M := model prog w) X E.be
  obtain ⟨hh, g, dr, t, os⟩ := s
  simp only [checkBuiltinCall, e1, e2]
  refine wpAny_bind ?_
  unfold isInstance
  repeat lk
  exact q
theorem qi {Q : Option Value → Shared → Prop} (X : K.In s.heap) (E : ee K C) (x : ExcAt C a s.heap) (q : Q (some (.ref C)) { s with toks := s.toks + 1 }) : wpAny (model prog w) A (getAttr? (.ref a) "__class__") Q EE s := by
  obtain ⟨hh, g, d, t, os⟩ := s
  have L0 := ju (M := model prog w) x
  have L1 := looks_findIn (M := model prog w) X E.ga
  have L2 := looks_findIn (M := model prog w) X E.gt
  have ji : (onTheHeap (Value.ref C) && Value.builtin "BaseException.__getattribute__" == Value.builtin "object.__getattribute__") = false := by
    rw [show (Value.builtin "BaseException.__getattribute__" == Value.builtin "object.__getattribute__") = false from by decide +kernel]
    rfl
  unfold getAttr? getAttrBy?
  refine wpAny_bind (wpAny_mkText (wpAny_bind (m := (getAttrBy _ _ _).attempt) (wpAny_attempt ?_)))
  unfold getAttrBy
  refine wpAny_holding (wpAny_bind (m := typeOf _) (L0.at (wpAny_bind (m := typeLookup _ _) (L1.at ?_))))
  simp only [ji, Bool.false_eq_true, if_false]
  unfold getAttrByItsOwn hookBefore
  refine wpAny_bind (L2.at ?_)
  refine wpAny_bind (wpAny_attempt (wpAny_holding ?_))
  unfold callGetattribute boundAndCalled
  simp only [Bool.false_and, Bool.false_eq_true, if_false]
  refine wpAny_bind (m := bindSpecial _ _) (wpAny_of_eq (F.attr_ValueError.ga.bind (.ref a)) ?_)
  have L3 := B7 (M := model prog w) (a := a) X E
  refine wpAny_call (codeAny_call_builtin F.attr_ValueError.ga.plain F.entry_bexc_ga (tZ X E x ?_))
  unfold Builtin.«object.__getattribute__»
  iterate 9 lk
  refine wpAny_bind (m := attrName _) (wpAny_pure (wpAny_bind (m := typeOf _) (L0.at (wpAny_bind (m := find _ _ _) (L3.at ?_)))))
  show wpAny _ _ (holding [Value.builtin "object.__class__"] (call (.builtin "getset_descriptor.__get__") [.builtin "object.__class__", .ref a, .ref C]) >>= ret) _ _ _
  refine wpAny_bind (m := holding _ _) (wpAny_holding (wpAny_call (rS X E x ?_)))
  exact wpAny_pure (handed_on rfl (wpAny_pure q))
end
theorem oh {K : Frag} {C a : Addr} (E : ee K C) : KitX K (.ref a) (.ref C) (ExcAt C a) where
  ty := fun _ _ _ x => ju x
  it := fun _ _ X _ => xI X E
  ne := fun _ _ _ _ _ _ X e => zM X E e
  ca := fun X x q => qi X E x q
theorem rh : ∀ {Ds : List Addr} {us : List Value}, Vals (Ds.map V.ref) us → us = Ds.map Value.ref
  | [], _, .nil => rfl
  | D :: Ds, _, .cons r t => by
    cases (show _ = Value.ref D from r)
    rw [rh t]
    rfl
section
variable {X : Cx}
noncomputable def MT (K : Frag) : List V → Hp → VK → Prop := fun xs H Q => ∃ a C b, H a = some (og C a) ∧ ee K C ∧
  ((∃ D, xs = [.ref a, .ref D] ∧ kitOne K (.ref C) (.ref D) = some b) ∨ (∃ T, xs = [.ref a, .ty T] ∧ kitOne K (.ref C) (.type T) = some b) ∨ ∃ (tp : Addr) (Ds : List Addr), xs = [.ref a, .ref tp] ∧ H tp = some (.tup (Ds.map V.ref)) ∧ kitAny K (.ref C) (Ds.map Value.ref) = some b) ∧ Q (.bl b) H
theorem B8 {K : Frag} (hK : X.K = K) : cq X (.builtin "isinstance") (MT K) := by
  subst hK
  intro pins s σ H xs us Q I r h
  obtain ⟨a, C, b, ha, E, h, q⟩ := h
  have x : ExcAt C a s.heap := (I.hok a _ ha).1
  have fin : ∀ tk, EP X pins σ Q (.bool b) { s with toks := tk } := fun tk => ⟨.bl b, H, I.tok tk, rfl, q⟩
  rcases h with ⟨D, rfl, e⟩ | ⟨T, rfl, e⟩ | ⟨tp, Ds, rfl, ht, e⟩
  · obtain ⟨u, w', rfl, r1, r2⟩ := vals2 r
    cases (show u = Value.ref a from r1)
    cases (show w' = Value.ref D from r2)
    exact kia_one (oh E) I.fA x e (fun z => nomatch z) fin
  · obtain ⟨u, w', rfl, r1, r2⟩ := vals2 r
    cases (show u = Value.ref a from r1)
    cases (show w' = Value.type T from r2)
    exact kia_one (oh E) I.fA x e (fun z => nomatch z) fin
  · obtain ⟨u, w', rfl, r1, r2⟩ := vals2 r
    cases (show u = Value.ref a from r1)
    cases (show w' = Value.ref tp from r2)
    obtain ⟨_, its, rv, ob, ho, hc, n, hd, _⟩ := I.hok tp _ ht
    have ei := rh rv
    subst ei
    obtain ⟨c, dd, dt, sl⟩ := ob
    dsimp only at hc hd
    subst hc hd
    exact kia_tup (oh E) I.fA x ho e (fun z => nomatch z) fin
end
end L2
namespace L2
open PySem PySem.Spec PyProof.Rows PySem.W
noncomputable def blank (n : Nat) : St := List.replicate n none
theorem t4 {n i : Nat} {v : V} (h : (blank n)[i]? = some (some v)) : False := by
  unfold blank at h
  rw [List.getElem?_replicate] at h
  split at h <;> cases h
noncomputable abbrev Cx.kU (X : Cx) (T : Value → Shared → Prop) (pn : List (Addr × Obj)) : Cx := { X with xe := T, pn := pn }
noncomputable abbrev Cx.suite (X : Cx) (a : Addr) : Cx := { X with A := X.A.mark (some (.ref a)), calm := false, xe := fun _ _ => False }
section
variable {X : Cx} {pins pins' : List (Addr × Obj)} {σ : St} {H : Hp} {s : Shared} {T : Value → Shared → Prop}
theorem Inv.kU (I : Inv X pins σ H s) (T : Value → Shared → Prop) : Inv (X.kU T (X.pn ++ pins)) [] σ H s :=
  ⟨⟨I.ok.mod, I.ok.kind, I.ok.glob, I.ok.blt, I.ok.above, I.ok.inj, I.ok.has, I.ok.cab, I.ok.hd, I.ok.frames, I.ok.stk, I.ok.exf, I.ok.bs, I.ok.bsz, I.ok.noex, I.ok.exfs, I.ok.funs, I.ok.frf⟩,
    I.os, I.bare, I.base, I.loc, I.cell, I.free, I.freeC, fun p hp => I.pin p (by simpa using hp), I.hok, I.len⟩
theorem Inv.mE (J : Inv (X.kU T (X.pn ++ pins)) pins' σ H s) : Inv X pins σ H s :=
  ⟨⟨J.ok.mod, J.ok.kind, J.ok.glob, J.ok.blt, J.ok.above, J.ok.inj, J.ok.has, J.ok.cab, J.ok.hd, J.ok.frames, J.ok.stk, J.ok.exf, J.ok.bs, J.ok.bsz, J.ok.noex, J.ok.exfs, J.ok.funs, J.ok.frf⟩,
    J.os, J.bare, J.base, J.loc, J.cell, J.free, J.freeC, fun p hp => J.pin p (List.mem_append_left _ hp), J.hok, J.len⟩
theorem Inv.suite (I : Inv X pins σ H s) (a : Addr) : Inv (X.suite a) pins σ H s :=
  ⟨⟨I.ok.mod, I.ok.kind, I.ok.glob, I.ok.blt, I.ok.above, I.ok.inj, I.ok.has, I.ok.cab, (fun z => nomatch z), I.ok.frames, I.ok.stk, I.ok.exf, I.ok.bs, I.ok.bsz, I.ok.noex, I.ok.exfs, I.ok.funs, I.ok.frf⟩,
    I.os, I.bare, I.base, I.loc, I.cell, I.free, I.freeC, I.pin, I.hok, I.len⟩
theorem Inv.EF {a : Addr} (ok : X.Ok) (J : Inv (X.suite a) pins σ H s) : Inv X pins σ H s :=
  ⟨ok, J.os, J.bare, J.base, J.loc, J.cell, J.free, J.freeC, J.pin, J.hok, J.len⟩
theorem Inv.blank (I : Inv X pins σ H s) : Inv X pins (blank X.N.length) H s := by
  refine ⟨I.ok, I.os, I.bare, I.base, ?_, I.cell, I.free, I.freeC, I.pin, I.hok, by unfold L2.blank; simp⟩
  obtain ⟨m, hn, _⟩ := I.loc
  exact ⟨m, hn, fun i x v _ e => (t4 e).elim⟩
theorem Inv.lost {h' : Heap} {m' : Str → Option Value} {t' : Nat} (I : Inv X pins σ H s) (hn : h'.Ns X.env.locals m') (sb : Heap.SameBut X.env.locals s.heap h') : Inv X pins (L2.blank X.N.length) H { s with heap := h', toks := t' } := by
  have mv : ∀ b o, b ≠ X.env.locals → s.heap.get? b = some o → h'.get? b = some o := fun b o n e => (sb.2 b n).trans e
  refine ⟨I.ok, I.os, I.bare, ⟨fun b o q n hb hx => mv b o (I.kT q) (I.base.keep b o q n hb hx), fun b o q n hb hx => ?_, I.base.free, fun b o q hx => ?_, I.base.tups, I.base.frzs, I.base.tbls⟩,
    ⟨m', hn, fun i x v _ e => (t4 e).elim⟩, fun x c e => ?_, I.free, I.freeC, fun p hp => ?_, fun a o e => ?_, by unfold L2.blank; simp⟩
  · obtain ⟨sl, e⟩ := I.base.slot b o q n hb hx
    exact ⟨sl, mv b _ (I.kT q) e⟩
  · obtain ⟨o', e⟩ := I.base.there b o q hx
    exact ⟨o', mv b _ (I.kT q) e⟩
  · obtain ⟨v, o, ho, hd⟩ := I.cell x c e
    exact ⟨v, o, mv c o (I.qF x c e) ho, hd⟩
  · obtain ⟨p1, p2, p3, p4, p5⟩ := I.pin p hp
    exact ⟨mv _ _ p3 p1, p2, p3, p4, p5⟩
  · refine (I.hok a o e).cp (fun b u hb q => mv b u (fun z => ?_) q) (fun _ q => q) fun _ _ q => q
    have fr := I.free
    rw [← z] at fr
    rcases hb with y | y
    · rw [y, e] at fr; cases fr
    · rw [y] at fr; cases fr
theorem Inv.JF {a : Addr} {o : HO} (I : Inv X pins σ H s) (n0 : H a = none) (n1 : X.s₀.heap.get? a = none) (n2 : a ≠ X.env.locals) (n3 : ∀ x c, X.env.cells.lookup x = some c → c ≠ a) (n4 : ∀ p ∈ X.pn ++ pins, p.1 ≠ a)
    (ob : ObjOk X.prog X.w (upd H a o) s.heap a o) : Inv X pins σ (upd H a o) s := by
  have un : ∀ b u, H b = some u → upd H a o b = some u := fun b u e => by rw [ae (av e n0)]; exact e
  refine ⟨I.ok, I.os, I.bare, ⟨I.base.keep, I.base.slot, fun b u q n hx => ?_, I.base.there, fun b xs e => un _ _ (I.base.tups b xs e), fun b u v e => un _ _ (I.base.frzs b u v e), fun b ps e => ?_⟩, I.loc, I.cell, ?_, fun x c e => ?_, fun p hp => ?_, fun b u e => ?_, I.len⟩
  · rw [ae (fun z => by rw [z, n1] at q; cases q)]
    exact I.base.free b u q n hx
  · obtain ⟨more, z⟩ := I.base.tbls b ps e
    exact ⟨more, un _ _ z⟩
  · rw [ae (Ne.symm n2)]
    exact I.free
  · rw [ae (n3 x c e)]
    exact I.freeC x c e
  · obtain ⟨p1, p2, p3⟩ := I.pin p hp
    exact ⟨p1, by rw [ae (n4 p hp)]; exact p2, p3⟩
  · by_cases hb : b = a
    · subst hb
      rw [aj] at e
      cases e
      exact ob
    · rw [ae hb] at e
      exact (I.hok b u e).cp (fun _ _ _ q => q) (fun c q => un _ _ q) fun c xs q => un _ _ q
end
structure jQ (K : Frag) (C0 : Addr) : Prop where
  ty : typeIn K (.ref C0) = some (.type "type")
  be : subIn K (.ref C0) (.type "BaseException") = some true
  it : (clsIn K C0).isSome = true
theorem zN {K : Frag} {C C0 a : Addr} {M : Model} {A : Around} {E : Value → Shared → Prop} {s : Shared} {Q : Bool → Shared → Prop} (X : K.In s.heap) (O : jQ K C0) (e : subIn K (.ref C) (.ref C0) = some true) (x : ExcAt C a s.heap) (q : Q true s) :
    wpAny M A (excMatches (.ref a) (.ref C0)) Q E s := by
  obtain ⟨hh, g, d, t, os⟩ := s
  have L0 := ju (M := M) x
  have L1 := looks_typeIn (M := M) X O.ty
  have L2 := looks_subIn (M := M) X O.be
  have L3 := looks_subIn (M := M) X e
  have L4 : Looks M hh (isSubtype (.type "type") (.type "tuple")) false := Looks.of_pure tc_notTuple
  have L5 : Looks M hh (isType (.ref C0)) true := by
    have z := O.it
    unfold clsIn at z
    split at z
    case h_2 => cases z
    case h_1 ho =>
      intro A Q E s k q
      unfold isType loadHead
      exact wpAny_bind (m := loadPart _ _) (wpAny_loadPart (k _ _ (X _ _ ho)) (wpAny_pure q))
  unfold excMatches
  unfold isInstance isExcClass
  repeat lk
  exact q
noncomputable def Hu (K : Frag) (C0 : Addr) (i n : Nat) (th : TS) (D : Ends) : XK := fun cls _ H' => ∃ C, cls = .ref C ∧ subIn K (.ref C) (.ref C0) = some true ∧ ∀ a, H' a = none →
  th { nx := fun _ H2 => D.nx (blank n) H2, rt := D.rt, bk := fun _ H2 => D.bk (blank n) H2, ct := fun _ H2 => D.ct (blank n) H2 } ((blank n).set i (some (.ref a))) (upd H' a (og C a))
noncomputable def MU (K : Frag) (C0 : Addr) (i n : Nat) (tb : XK → TS) (th : TS) : TS := fun D σ H => tb (Hu K C0 i n th D) D σ H
section
variable {X : Cx} {body suite : List Stmt} {x n : Str} {i : Nat} {np kW pos : Pos} {qj : Stmt} {C0 : Addr} {tb : XK → TS} {th : TS}
theorem Hv (hN : X.N.Nodup) (hi : X.N[i]? = some n) (hl : X.env.scope.names.lookup n = some .local) (jO : X.stack = X.env :: X.outer ∧ X.env.frame = some X.env.locals) (hex : X.ex = []) (O : jQ X.K C0) (hg : Gl X x) (hm : X.mg x = some (.ref C0))
    (hb : ∀ (T : Value → Shared → Prop) (pn : List (Addr × Obj)) (E : XK), Passes (cC X.prog X.w) (X.kU T pn) E → d6 (X.kU T pn) body (tb E)) (hs : ∀ a : Addr, d6 (X.suite a) (qj :: suite) th)
    (gj : (x == ("__debug__" : Str)) = false := by decide) :
    PS X (.Try body [.ExceptHandler (some (.Name x np)) (some n) (qj :: suite) kW] [] [] pos) (MU X.K C0 i X.N.length tb th) := by
  refine ⟨fun pins s σ H D I h => ?_⟩
  refine wpAny_Try_except ?_
  have hp : Passes (cC X.prog X.w) (X.kU (fun e au => wpAny (model X.prog X.w) X.A (noteFrame e X.env) (fun _ fW => wpAny (model X.prog X.w) X.A (setFlight e none) (fun _ fv => wpAny (model X.prog X.w) X.A (handleBy e X.env [.ExceptHandler (some (.Name x np)) (some n) (qj :: suite) kW]) (SP X pins D) X.xe fv) X.xe fW) X.xe au) (X.pn ++ pins)) (Hu X.K C0 i X.N.length th D) := by
    intro pins' qG H1 s1 e s' J1 Oq
    obtain ⟨a, C, t, B, H', rfl, os, gn, fl, c1, c2, un, hok, C', ec, j4, q⟩ := Oq
    cases ec
    have I1 := J1.mE
    have I' := I1.oH (ch := []) os un hok gn (fun b z => absurd z (by simp))
    have fr : X.A.frames = some (X.env :: X.outer) := I.ok.frames.trans (congrArg some jO.1)
    have DH : Heap.FlyingW B (X.env :: X.outer) a (.ref C) (.ref t) s'.heap := jO.1 ▸ fl
    refine wpAny_looks_onW fr jO.2 DH fun h4 held K5 => ?_
    refine wpAny_landsW held fun h5 Hw K6 => ?_
    have I5 := I1.DG I' c1 c2 fl.1 Hw.1 (K5.trans K6)
    have Y5 := I5.suite a
    have Ot : ExcAt C a h5 := let ⟨oe, vs, e1, e2, e3, _⟩ := Hw.first; ⟨oe, vs, e1, e2, e3⟩
    refine wpAny_handleBy_cons (codeAny_handlers_test (nu Y5 hg hm (zN Y5.fA O j4 Ot ?_) gj)) (fun z => nomatch z)
    refine codeAny_handlers_suite_as (lands_againW Hw fun h6 K7 Ou => ?_)
    have I6 := I1.DG I' c1 c2 fl.1 K7.1 ((K5.trans K6).trans Ou)
    have K8 : ExcAt C a h6 := let ⟨oe, vs, e1, e2, e3, _⟩ := K7.first; ⟨oe, vs, e1, e2, e3⟩
    obtain ⟨oe, vs, e1, e2, e3⟩ := id K8
    have Ov : a ∉ fo X.stack := fun z => by
      obtain ⟨_, o2, q1, q2⟩ := I6.stack.mem z
      rw [e1] at q1
      cases q1
      exact q2 _ e3
    have nb : ∀ o, s1.heap.get? a ≠ some o := fun o z => by
      obtain ⟨o', z'⟩ := c1 a o z Ov
      rw [fl.2.1] at z'
      cases z'
    have nH : H' a = none := by
      cases z : H' a with
      | none => rfl
      | some u =>
        obtain ⟨o', z'⟩ := c2 a u z
        rw [fl.2.1] at z'
        cases z'
    have nL : a ≠ X.env.locals := fun z => by
      obtain ⟨m, ⟨o, es, ep, ho, hd, _⟩, _⟩ := I6.loc
      rw [← z, e1] at ho
      cases ho
      rw [e3] at hd
      cases hd
    have I7 : Inv X pins (blank X.N.length) (upd H' a (og C a)) { s' with heap := h6 } := I6.blank.JF nH
      (by
        cases z : X.s₀.heap.get? a with
        | none => rfl
        | some o =>
          obtain ⟨o1, q1⟩ := I1.base.there a o z (by rw [hex]; simp)
          exact (nb _ q1).elim)
      nL
      (fun y c ec z => by
        obtain ⟨v, o, ho, hd⟩ := I6.cell y c ec
        rw [z, e1] at ho
        cases ho
        rw [e3] at hd
        cases hd)
      (fun p hp z => by
        have := (I1.pin p hp).1
        rw [z] at this
        exact (nb _ this).elim)
      (ED K8)
    refine store_ok2 I7 hN hi (.inl hl) (v := .ref a) rfl (fun s8 I8 _ => ?_) (.inr hl)
    refine wpAny_mono ((hs a).run pins s8 _ _ _ (I8.suite a) (q a nH)) (fun f s9 r => ?_) (fun _ _ z => z.elim)
    have fin : ∀ {wg : St} {H9 : Hp}, Inv (X.suite a) pins wg H9 s9 → (∀ wj, Inv X pins (blank X.N.length) H9 wj → SP X pins D f wj) → wpAny (model X.prog X.w) X.A (do bindName X.env n .none; unbindBehindTheSuite X.env n kW) (fun _ MV => SP X pins D f MV) X.xe s9 := fun {wg H9} Y9 k => by
      have I9 := Y9.EF I.ok
      obtain ⟨m, hn, _⟩ := id I9.loc
      exact wpAny_nameGoes hl hn (by rw [I.ok.kind]; rfl) fun h' m' sP sb => k _ (I9.lost sP sb)
    cases f with
    | next => obtain ⟨wg, H9, Y9, z⟩ := r; exact fin Y9 fun wj J => ⟨_, H9, J, z⟩
    | brk => obtain ⟨wg, H9, Y9, z⟩ := r; exact fin Y9 fun wj J => ⟨_, H9, J, z⟩
    | cont => obtain ⟨wg, H9, Y9, z⟩ := r; exact fin Y9 fun wj J => ⟨_, H9, J, z⟩
    | ret u => obtain ⟨v, wg, H9, Y9, rv, z⟩ := r; exact fin Y9 fun wj J => ⟨v, _, H9, J, rv, z⟩
  have fG := hb _ (X.pn ++ pins) _ hp
  refine wpAny_mono (fG.run [] s σ H D (I.kU _) h) (fun f s1 q => ?_) (fun e s1 q => q)
  have q2 : SP X pins D f s1 := by
    cases f with
    | next => obtain ⟨aC, H', J, z⟩ := q; exact ⟨aC, H', J.mE, z⟩
    | brk => obtain ⟨aC, H', J, z⟩ := q; exact ⟨aC, H', J.mE, z⟩
    | cont => obtain ⟨aC, H', J, z⟩ := q; exact ⟨aC, H', J.mE, z⟩
    | ret u => obtain ⟨v, aC, H', J, r, z⟩ := q; exact ⟨v, aC, H', J.mE, r, z⟩
  cases f with
  | next => exact wpAny_pure q2
  | _ => exact q2
end
theorem nN.tF {P : Program} {w : World} {K : PySem.W.Frag} {mg : Str → Option Value} {base : Heap} {x qual : Str} {st : Stmt} {f : Addr} {fd : FuncData} {N ps : List Str} {k : Nat} {sp : Sp} (F : nN K x qual st f fd) (S : aJ N ps (ak st)) (len : ∀ vs H Q E, sp vs H Q E → vs.length = ps.length)
    (kI : ∀ (A : Around) (outer : List Env) (s : Shared) (H : Hp) (vs : List V) (Q : VK) (E : XK), bV k (A.deeper (envOfC qual (ak st) s.heap.objs.size f fd.code)) → sp vs H Q E →
      ∃ t, d6 (fu (cC P w) P w K mg base N qual (ak st) f fd.code A outer s H E) (cY st) t ∧ t { nx := fun _ H' => Q .aq H', rt := Q } (start N vs) H) : FnOk P w K mg base (cC P w) (k + 1) f fd ps sp := by
  obtain ⟨oc, od, kV, doc, pm, an, cy, ct, lB, rfl, lk, fD⟩ := F.ex
  exact w6 lk fD S len fun A outer s H vs Q E hr lC => kI A outer s H vs Q E hr lC
noncomputable def K9 : List Value := [.type "ValueError", .type "Exception", .type "BaseException", .type "object"]
noncomputable def B9 (K : Frag) (C0 C : Addr) : Bool := excIn K C K9 "ValueError.__new__" && (clsIn K C).isSome && findIn K (.ref C) "__getattribute__" == some (some (.builtin "BaseException.__getattribute__")) && findIn K (.ref C) "__getattr__" == some none &&
  findIn K (.ref C) "__class__" == some (some (.builtin "object.__class__")) && mroIn K C (.type "object") == some true && mroIn K C (.type "BaseException") == some true && subIn K (.ref C) (.ref C0) == some true && kitOne K (.ref C) (.type "ValueError") == some true
noncomputable def xJ (K : Frag) (C0 : Addr) (cs : List Addr) : Bool := cs.all (B9 K C0) && (cs.all fun C => cs.all fun D => kitOne K (.ref C) (.ref D) == some (decide (C = D))) && specialIn K (.builtin "object.__class__") "__get__" == some (some (.builtin "getset_descriptor.__get__")) && takesIn K (.builtin "object.__class__") == some true &&
  typeIn K (.ref C0) == some (.type "type") && subIn K (.ref C0) (.type "BaseException") == some true && (clsIn K C0).isSome
structure oi (K : Frag) (C0 : Addr) (cs : List Addr) : Prop where
  ex : ∀ C ∈ cs, excIn K C K9 "ValueError.__new__" = true
  cl : ∀ C ∈ cs, ee K C
  sub : ∀ C ∈ cs, subIn K (.ref C) (.ref C0) = some true
  one : ∀ C ∈ cs, ∀ D ∈ cs, kitOne K (.ref C) (.ref D) = some (decide (C = D))
  val : ∀ C ∈ cs, kitOne K (.ref C) (.type "ValueError") = some true
  top : jQ K C0
theorem EG {K : Frag} {C0 : Addr} {cs : List Addr} (h : xJ K C0 cs = true) : oi K C0 cs := by
  unfold xJ at h
  simp only [Bool.and_eq_true] at h
  obtain ⟨⟨⟨⟨⟨⟨h1, h2⟩, h3⟩, h4⟩, h5⟩, h6⟩, h7⟩ := h
  have all : ∀ C ∈ cs, B9 K C0 C = true := List.all_eq_true.mp h1
  have part : ∀ C ∈ cs, _ := fun C hC => by
    have z := all C hC
    unfold B9 at z
    simp only [Bool.and_eq_true] at z
    exact z
  refine ⟨fun C hC => (part C hC).1.1.1.1.1.1.1.1, fun C hC => ?_, fun C hC => beq_iff_eq.mp (part C hC).1.2, fun C hC D hD => beq_iff_eq.mp (List.all_eq_true.mp (List.all_eq_true.mp h2 C hC) D hD), fun C hC => beq_iff_eq.mp (part C hC).2, ⟨beq_iff_eq.mp h5, beq_iff_eq.mp h6, h7⟩⟩
  obtain ⟨⟨⟨⟨⟨⟨⟨⟨_, p1⟩, p2⟩, p3⟩, p4⟩, p5⟩, p6⟩, _⟩, _⟩ := part C hC
  exact ⟨p1, beq_iff_eq.mp p2, beq_iff_eq.mp p3, beq_iff_eq.mp p4, beq_iff_eq.mp h3, beq_iff_eq.mp h4, beq_iff_eq.mp p5, beq_iff_eq.mp p6⟩
theorem oi.any {K : Frag} {C0 : Addr} {cs : List Addr} (E : oi K C0 cs) {C : Addr} (hC : C ∈ cs) : ∀ {Ds : List Addr}, (∀ D ∈ Ds, D ∈ cs) → kitAny K (.ref C) (Ds.map Value.ref) = some (decide (C ∈ Ds))
  | [], _ => by simp [kitAny]
  | D :: Ds, h => by
    rw [List.map_cons]
    unfold kitAny
    rw [E.one C hC D (h D List.mem_cons_self)]
    by_cases e : C = D
    · subst e
      simp
    · have ih := E.any hC (Ds := Ds) fun D' hD => h D' (List.mem_cons_of_mem _ hD)
      simp only [e, decide_false, ih, List.mem_cons, false_or]
section
open PySem.Builtin.Str
theorem nU {α β : Type} (P : β → Prop) (f : α → β → Id (ForInStep β)) (hf : ∀ a b, P b → ∃ b', f a b = pure (.yield b') ∧ P b') : ∀ (l : List α) (b : β), P b → P (forIn (m := Id) l b f)
  | [], b, h => h
  | a :: l, b, h => by
    obtain ⟨b', e, h'⟩ := hf a b h
    rw [List.forIn_cons, e]
    exact nU P f hf l b' h'
theorem EH {s sub : Str} {lo hi limit x : Nat} (h : x ∈ occurrences s sub lo hi limit) : subAt s sub x = true ∧ x + sub.length ≤ hi := by
  unfold occurrences at h
  simp only [Std.Legacy.Range.forIn_eq_forIn_range', Id.run] at h
  have z := nU (P := fun (b : Array Nat × Nat) => ∀ x ∈ b.1.toList, subAt s sub x = true ∧ x + sub.length ≤ hi) (fun (i : Nat) (__s : Array Nat × Nat) => if (decide (__s.fst.size < limit) && decide (__s.snd ≤ i) && decide (i + sub.length ≤ hi) && subAt s sub i) = true then pure (ForInStep.yield (__s.fst.push i, i + sub.length)) else pure (ForInStep.yield (__s.fst, __s.snd))) (fun i b hb => by
    split
    · rename_i hc
      simp only [Bool.and_eq_true, decide_eq_true_eq] at hc
      refine ⟨_, rfl, fun y hy => ?_⟩
      simp only [Array.toList_push, List.mem_append, List.mem_singleton] at hy
      rcases hy with hy | rfl
      · exact hb y hy
      · exact ⟨hc.2, hc.1.2⟩
    · exact ⟨_, rfl, hb⟩) (List.range' lo [lo:hi + 1].size) (#[], lo) (by simp)
  exact z x h
theorem Ca {s : Str} {c : Nat} (h : (occurrences s ⟨#[c]⟩ 0 s.length 1).isEmpty = false) : c ∈ s.cps.toList := by
  cases e : occurrences s ⟨#[c]⟩ 0 s.length 1 with
  | nil => rw [e] at h; cases h
  | cons x r =>
    obtain ⟨h1, h2⟩ := EH (x := x) (by rw [e]; exact List.mem_cons_self)
    unfold subAt at h1
    have h3 := beq_iff_eq.mp h1
    have hx : x < s.cps.size := h2
    have : c ∈ (s.cps.extract x (x + (⟨#[c]⟩ : Str).length)).toList := by rw [h3]; simp
    rw [Array.toList_extract] at this
    exact List.mem_of_mem_drop (List.mem_of_mem_take this)
end
end L2
namespace L2
open PySem PySem.Spec PyProof.Rows AutoSeq1
theorem Cb (l b : Addr) (items Hx : Array Value) (n n2 : Nat) (dd vV : Option Addr) (sl qO : Array (Option Value)) (h0 : items.isEmpty = true) :
    Meets (Builtin.«tuple.__add__» ⟨[.ref l, .ref b], []⟩) (fun _ R s => s.heap.get? l = some { cls := .type "tuple", dict := dd, data := .seq items n, slots := sl } ∧ s.heap.get? b = some { cls := .type "tuple", dict := vV, data := .seq Hx n2, slots := qO } ∧ R (.ok (.ret (.ref b))) s) :=
  .of_wp fun prog w A R s h => by
    obtain ⟨hp, g, d, tk, os⟩ := s
    obtain ⟨hl, hb, h⟩ := h
    have f2 := AutoSeq1.sub_tuple_tuple
    wp_walk using wpAny_loadPart' hl, wpAny_loadPart' hb
    exact ⟨_, rfl, h⟩
section
variable {X : Cx}
noncomputable def JG (K : PySem.W.Frag) : R2 := fun x y H Q => ∃ a b xs ys, x = .ref a ∧ y = .ref b ∧ cB K H a xs ∧ cB K H b ys ∧ xs.length + ys.length ≤ sizeLine ∧ (xs = [] → Q (.ref b) H) ∧ (xs ≠ [] → ys = [] → Q (.ref a) H) ∧ (xs ≠ [] → ys ≠ [] → ∀ p, H p = none → Q (.ref p) (upd H p (.tup (xs ++ ys))))
theorem EI {K : PySem.W.Frag} (hK : X.K = K) : OpR X (binaryOp .Add) (JG K) := by
  subst hK
  intro pins s σ H x y v u Q I rx ry h
  obtain ⟨a, b, xs, ys, rfl, rfl, ha, hb, hz, q0, q1, q2⟩ := h
  by_cases hx : xs = []
  · cases rx
    cases ry
    obtain ⟨its, r1, p1, _⟩ := I.tuple ha
    obtain ⟨bW, r2, p2, _⟩ := I.tuple hb
    obtain ⟨⟨cls, dd, data, sl⟩, ho, hc, n, hd⟩ := id p1
    obtain ⟨⟨Mu, vV, data2, qO⟩, iB, qP, n2, hd2⟩ := id p2
    dsimp only at hc hd qP hd2
    subst hc hd qP hd2
    exact concat_meets ⟨_, ho, rfl⟩ ⟨_, iB, rfl⟩ noFill_tuple_add seq_tuple_add PySem.F.slot_tuple_add PySem.F.entry_tuple_add (PySem.F.args_tuple_add_2 _ _) (Cb a b its.toArray bW.toArray n n2 dd vV sl qO (by simp [r1.ny.mpr hx])) ⟨ho, iB, ⟨.ref b, H, I, rfl, q0 hx⟩⟩
  · exact En pins s σ H _ _ v u Q I rx ry ⟨a, b, xs, ys, rfl, rfl, ha, hb, hx, hz, q1 hx, q2 hx⟩
end
end L2
namespace L2
open PySem PySem.Spec PyProof.Rows
section
variable {X : Cx} {st : Stmt} {ι : Type} {Pre : ι → St → Hp → Prop} {D : ι → Ends}
theorem rT {P : Program} {w : World} {K : PySem.W.Frag} (hP : X.prog = P) (hw : X.w = w) (h : X.K = K) (hc : X.calm = true) : cq X (.builtin "sorted") (we P w K) := by
  subst hP hw h
  exact tW hc
theorem PS.nM {st : Stmt} {t : TS} (h : PS X.nM st t) : PS X st t := ⟨fun pins s σ H D I hw =>
  wpAny_mono (h pins s σ H D (I.i6 _) hw) (fun _ _ q => q.gr) fun _ _ z => False.elim z⟩
end
section
variable {κ : Type} [DecidableEq κ]
noncomputable def iu (ao : List (κ × V)) (k : κ) : Option V := (ao.find? fun kv => decide (kv.1 = k)).map (·.2)
noncomputable def putK (ao : List (κ × V)) (k : κ) (v : V) : List (κ × V) :=
  if (ao.any fun kv => decide (kv.1 = k)) = true then ao.map (fun kv => if kv.1 = k then (kv.1, v) else kv) else ao ++ [(k, v)]
theorem kX {p : κ × V} {r : List (κ × V)} {k : κ} (e : p.1 = k) : iu (p :: r) k = some p.2 := by simp [iu, List.find?_cons, e]
theorem kY {p : κ × V} {r : List (κ × V)} {k : κ} (e : ¬ p.1 = k) : iu (p :: r) k = iu r k := by simp [iu, List.find?_cons, e]
theorem oj (k : κ) : ∀ ao : List (κ × V), (ao.any fun kv => decide (kv.1 = k)) = (iu ao k).isSome
  | [] => rfl
  | p :: r => by
    rw [List.any_cons]
    by_cases e : p.1 = k
    · simp only [kX e, decide_eq_true e, Bool.true_or, Option.isSome_some]
    · rw [kY e, decide_eq_false e, Bool.false_or]; exact oj k r
theorem nV (ao : List (κ × V)) (k : κ) (v : V) : (putK ao k v).length ≤ ao.length + 1 := by
  unfold putK
  split
  · rw [List.length_map]; omega
  · rw [List.length_append, List.length_cons, List.length_nil]; omega
theorem iZ.mF {o : Option V} {u : Option Value} (r : iZ o u) : o.isSome = u.isSome := by
  cases o with
  | none => cases u with
    | none => rfl
    | some _ => exact (show False from r).elim
  | some _ => cases u with
    | none => exact (show False from r).elim
    | some _ => rfl
theorem KV.val {ao : List (κ × V)} {vs : List (κ × Value)} (r : KV ao vs) (k : κ) : iZ (iu ao k) (valueAt vs k) := by
  unfold KV at r
  induction r with
  | nil => exact True.intro
  | @cons p q ps qs h t ih =>
    obtain ⟨h1, h2⟩ := h
    by_cases e : p.1 = k
    · have e' : q.1 = k := h1.symm.trans e
      have b : valueAt (q :: qs) k = some q.2 := by simp [valueAt, List.find?_cons, e']
      rw [kX e, b]; exact h2
    · have e' : ¬ q.1 = k := fun z => e (h1.trans z)
      have b : valueAt (q :: qs) k = valueAt qs k := by simp [valueAt, List.find?_cons, e']
      rw [kY e, b]; exact ih
theorem KV.any {ao : List (κ × V)} {vs : List (κ × Value)} (r : KV ao vs) (k : κ) : (ao.any fun kv => decide (kv.1 = k)) = vs.any fun kv => decide (kv.1 = k) := by
  unfold KV at r
  induction r with
  | nil => rfl
  | cons h t ih => rw [List.any_cons, List.any_cons, ih, h.1]
theorem KV.repl {ao : List (κ × V)} {vs : List (κ × Value)} (r : KV ao vs) (k : κ) {y : V} {u : Value} (ry : RelV y u) :
    KV (ao.map fun kv => if kv.1 = k then (kv.1, y) else kv) (vs.map fun kv => if kv.1 = k then (kv.1, u) else kv) := by
  unfold KV at r ⊢
  induction r with
  | nil => exact .nil
  | @cons p q ps qs h t ih =>
    rw [List.map_cons, List.map_cons]
    refine .cons ?_ ih
    obtain ⟨h1, h2⟩ := h
    by_cases e : p.1 = k
    · rw [if_pos e, if_pos (h1.symm.trans e)]; exact ⟨h1, ry⟩
    · rw [if_neg e, if_neg (fun z => e (h1.trans z))]; exact ⟨h1, h2⟩
theorem KV.put {ao : List (κ × V)} {vs : List (κ × Value)} (r : KV ao vs) (k : κ) {y : V} {u : Value} (ry : RelV y u) : KV (putK ao k y) (stored vs k u) := by
  unfold putK stored
  rw [r.any k]
  by_cases e : (vs.any fun kv => decide (kv.1 = k)) = true
  · rw [if_pos e, if_pos e]; exact r.repl k ry
  · rw [if_neg e, if_neg e]; exact Paired.snoc r ⟨rfl, ry⟩
theorem KV.length {ao : List (κ × V)} {vs : List (κ × Value)} (r : KV ao vs) : ao.length = vs.length := Paired.length r
end
theorem sA {P : Program} {w : World} {k : Key} {u : Value} (r : RelV (kV k) u) : (bS P w).is k u = true := by
  cases k with
  | inl i => obtain ⟨t, e⟩ := (show ∃ t, u = Value.int i t from r); subst e; exact u3 P w i t
  | inr x => obtain ⟨t, e⟩ := (show ∃ t, u = Value.str x t from r); subst e; exact u5 P w x t
theorem rj {P : Program} {w : World} : ∀ {ks : List Key} {us : List Value}, Vals (ks.map kV) us → ItemsAre (bS P w) ks us
  | [], _, r => by rw [List.map_nil] at r; cases r; exact .nil
  | k :: ks, _, r => by
    rw [List.map_cons] at r
    cases r with
    | cons h t => exact .cons (sA h) (rj t)
noncomputable abbrev KT (H : Hp) : List (List Key × V) → List (List Key × Addr × Value) → Prop := Paired fun p q => p.1 = q.1 ∧ H q.2.1 = some (.tup (p.1.map kV)) ∧ RelV p.2 q.2.2
theorem KT.val {H : Hp} {ao : List (List Key × V)} {xs : List (List Key × Addr × Value)} (r : KT H ao xs) (k : List Key) : iZ (iu ao k) ((atKey xs k).map (·.2)) := by
  induction r with
  | nil => exact True.intro
  | @cons p q ps qs h t ih =>
    obtain ⟨h1, _, h2⟩ := h
    by_cases e : p.1 = k
    · have e' : q.1 = k := h1.symm.trans e
      have b : atKey (q :: qs) k = some q.2 := by simp [atKey, List.find?_cons, e']
      rw [kX e, b]; exact h2
    · have e' : ¬ q.1 = k := fun z => e (h1.trans z)
      have b : atKey (q :: qs) k = atKey qs k := by simp [atKey, List.find?_cons, e']
      rw [kY e, b]; exact ih
theorem KT.repl {H : Hp} {ao : List (List Key × V)} {xs : List (List Key × Addr × Value)} (r : KT H ao xs) (k : List Key) {y : V} {u : Value} (ry : RelV y u) :
    KT H (ao.map fun kv => if kv.1 = k then (kv.1, y) else kv) (xs.map (putAt k u)) := by
  induction r with
  | nil => exact .nil
  | @cons p q ps qs h t ih =>
    rw [List.map_cons, List.map_cons]
    refine .cons ?_ ih
    obtain ⟨h1, h2, h3⟩ := h
    unfold putAt
    by_cases e : p.1 = k
    · rw [if_pos e, if_pos (h1.symm.trans e)]; exact ⟨h1, h2, ry⟩
    · rw [if_neg e, if_neg (fun z => e (h1.trans z))]; exact ⟨h1, h2, h3⟩
theorem KT.put {H : Hp} {ao : List (List Key × V)} {xs : List (List Key × Addr × Value)} (r : KT H ao xs) (k : List Key) {b : Addr} {y : V} {u : Value} (hb : H b = some (.tup (k.map kV))) (ry : RelV y u) :
    KT H (putK ao k y) (storedH xs k b u) := by
  have e : (ao.any fun kv => decide (kv.1 = k)) = (atKey xs k).isSome := by
    rw [oj, (r.val k).mF, Option.isSome_map]
  unfold putK storedH
  rw [e]
  by_cases q : (atKey xs k).isSome = true
  · rw [if_pos q, if_pos q]; exact r.repl k ry
  · rw [if_neg q, if_neg q]; exact Paired.snoc r ⟨rfl, hb, ry⟩
theorem KT.keeps {H H' : Hp} {ao : List (List Key × V)} {xs : List (List Key × Addr × Value)} (r : KT H ao xs) (ht : ∀ b ys, H b = some (.tup ys) → H' b = some (.tup ys)) : KT H' ao xs :=
  Paired.sL r fun _ _ z => ⟨z.1, ht _ _ z.2.1, z.2.2⟩
section
variable {P : Program} {w : World} {H : Hp} {h : Heap} {a : Addr}
theorem DI {u : HO} (ok : cJ P w H h) (e : Rd H a u) : ObjOk P w H h a u := e.ok ok
theorem sC {ao : List (Key × V)} (ok : cJ P w H h) (e : Rd H a (.dK ao)) : ao.length ≤ sizeLine ∧ (a == sysModules) = false ∧ ∃ vs, KV ao vs ∧ h.DictOf (bS P w) a vs :=
  show ObjOk P w H h a (.dK ao) from DI ok e
theorem JH {ao : List (Key × V)} (ok : cJ P w H h) (e : H a = some (.dK ao)) : ao.length ≤ sizeLine ∧ (a == sysModules) = false ∧ ∃ vs, KV ao vs ∧ h.DictOf (bS P w) a vs := sC ok (.inl e)
theorem mG {ks : List Key} (ok : cJ P w H h) (e : H a = some (.tup (ks.map kV))) : (tupleKind (bS P w)).is h ks a := by
  obtain ⟨_, its, r, o, h1, h2, n, h3, _⟩ := (show ObjOk P w H h a (.tup (ks.map kV)) from ok a _ e)
  exact ⟨o, its.toArray, n, h1, h2, h3, by simpa using rj r⟩
theorem pj {ao : List (List Key × V)} (ok : cJ P w H h) (e : Rd H a (.dT ao)) : ao.length ≤ sizeLine ∧ (a == sysModules) = false ∧
    ∃ xs, KT H ao xs ∧ h.DictOfH (tupleKind (bS P w)) a xs := by
  obtain ⟨z, y, xs, r, o, es, ep, h1, h2, h3, h4, h5⟩ := (show ObjOk P w H h a (.dT ao) from DI ok e)
  refine ⟨z, y, xs, r, o, es, ep, h1, h2, h3, h4, fun x hx => ?_, h5⟩
  have all : ∀ {l : List (List Key × V)} {m : List (List Key × Addr × Value)}, KT H l m → ∀ x ∈ m, (tupleKind (bS P w)).is h x.1 x.2.1 := by
    intro l m q
    induction q with
    | nil => intro x hx; exact nomatch hx
    | @cons p q ps qs hq t ih =>
      intro x hx
      rcases List.mem_cons.mp hx with e | hx
      · subst e
        exact mG ok (by rw [← hq.1]; exact hq.2.1)
      · exact ih x hx
  exact all r x hx
theorem DJ {ao : List (List Key × V)} (ok : cJ P w H h) (e : H a = some (.dT ao)) : ao.length ≤ sizeLine ∧ (a == sysModules) = false ∧
    ∃ xs, KT H ao xs ∧ h.DictOfH (tupleKind (bS P w)) a xs := pj ok (.inl e)
end
noncomputable def qk (H : Hp) (a : Addr) (y : V) (r : Option V) : Prop :=
  (∃ ao k, Rd H a (.dK ao) ∧ y = kV k ∧ r = iu ao k) ∨ ∃ ao k b, Rd H a (.dT ao) ∧ y = .ref b ∧ H b = some (.tup (k.map kV)) ∧ r = iu ao k
noncomputable def Hy (H : Hp) (a : Addr) (y v : V) (H' : Hp) : Prop :=
  (∃ ao k, H a = some (.dK ao) ∧ y = kV k ∧ ao.length < sizeLine ∧ H' = upd H a (.dK (putK ao k v))) ∨
  ∃ ao k b, H a = some (.dT ao) ∧ y = .ref b ∧ H b = some (.tup (k.map kV)) ∧ ao.length < sizeLine ∧ H' = upd H a (.dT (putK ao k v))
section
variable {X : Cx} {pins : List (Addr × Obj)} {σ : St} {H : Hp} {s : Shared} {a : Addr} {y v : V} {u r : Value} {o : Option V} {A : Around} {E : Value → Shared → Prop}
theorem Inv.big (I : Inv X pins σ H s) : sysModules < s.heap.objs.size := by
  have h : mainGlobals < s.heap.objs.size := (I.mod.glob.keeps I.bk).lt
  exact Nat.lt_trans (by decide) h
theorem zO {Q : Value → Shared → Prop} (hu : A.units + 1 < cLine) (I : Inv X pins σ H s) (g : qk H a y (some v)) (ry : RelV y u) (h : ∀ w' s', Inv X pins σ H s' → RelV v w' → Q w' s') :
    wpAny (model X.prog X.w) A (getItem (.ref a) u) Q E s := by
  rcases g with ⟨ao, k, e, ey, l⟩ | ⟨ao, k, b, e, ey, eb, l⟩
  · subst ey
    obtain ⟨z, hd, vs, rel, dd⟩ := sC I.hok e
    obtain ⟨w', hw, ka⟩ := iZ.some_of (v := v) (o := valueAt vs k) (by rw [l]; exact rel.val k)
    exact wpAny_getItem_of (sA ry) dd.mapOf hw (h w' _ (I.tok _) ka)
  · subst ey
    cases (show u = Value.ref b from ry)
    obtain ⟨z, hd, xs, rel, dd⟩ := pj I.hok e
    obtain ⟨w', hw, ka⟩ := iZ.some_of (v := v) (o := (atKey xs k).map (·.2)) (by rw [l]; exact rel.val k)
    obtain ⟨p, hp, nW⟩ := Option.map_eq_some_iff.mp hw
    refine wpAny_getItem_heap (tupleKind_room_in1 hu) (mG I.hok eb) dd hp ?_
    rw [nW]
    exact h w' _ (I.tok _) ka
theorem EJ {Q : Value → Shared → Prop} (hu : A.units + 1 < cLine) (I : Inv X pins σ H s) (g : qk H a y o) (ry : RelV y u) (h : ∀ s', Inv X pins σ H s' → Q (.bool (!o.isSome)) s') :
    wpAny (model X.prog X.w) A (compareOp .NotIn u (.ref a)) Q E s := by
  rcases g with ⟨ao, k, e, ey, l⟩ | ⟨ao, k, b, e, ey, eb, l⟩
  · subst ey
    obtain ⟨z, hd, vs, rel, dd⟩ := sC I.hok e
    refine wpAny_notIn_of (sA ry) hd dd.mapOf ?_
    rw [← (rel.val k).mF, ← l]
    exact h _ (I.tok _)
  · subst ey
    cases (show u = Value.ref b from ry)
    obtain ⟨z, hd, xs, rel, dd⟩ := pj I.hok e
    refine wpAny_notIn_heap (tupleKind_room_in1 hu) (mG I.hok eb) hd dd ?_
    have q := (rel.val k).mF
    rw [Option.isSome_map] at q
    rw [← q, ← l]
    exact h _ (I.tok _)
theorem ql {h' : Heap} {t' : Nat} {ob : HO} (I : Inv X pins σ H s) (mu : yB (H a)) (hs : Heap.SameBut a s.heap h') (he : ∃ q, h'.get? a = some q) (new : ObjOk X.prog X.w (upd H a ob) h' a ob) :
    Inv X pins σ (upd H a ob) { s with heap := h', toks := t' } :=
  I.write (x := a) (e := a) mu (.inl rfl) (fun b q hb z => (hs.2 b hb).trans z) he new
theorem Hz {P : Program} {w : World} {H' : Hp} {h' : Heap} {ao : List (Key × V)} {vs : List (Key × Value)} (z : ao.length ≤ sizeLine) (hd : (a == sysModules) = false) (rel : KV ao vs) (dd : h'.DictOf (bS P w) a vs) :
    ObjOk P w H' h' a (.dK ao) := ⟨z, hd, vs, rel, dd⟩
theorem zP {H' : Hp} {Q : Unit → Shared → Prop} (hu : A.units + 1 < cLine) (I : Inv X pins σ H s) (g : Hy H a y v H') (ry : RelV y u) (rv : RelV v r) (h : ∀ s', Inv X pins σ H' s' → Q () s') :
    wpAny (model X.prog X.w) A (setItem (.ref a) u r) Q E s := by
  rcases g with ⟨ao, k, e, ey, l, eH⟩ | ⟨ao, k, b, e, ey, eb, l, eH⟩
  · subst ey eH
    obtain ⟨z, hd, vs, rel, dd⟩ := JH I.hok e
    have hz : vs.length ≤ sizeLine := by rw [← rel.length]; exact z
    have hl : (putK ao k v).length ≤ sizeLine := by have := nV ao k v; omega
    refine wpAny_setItem_pairs (hsz := hz) (sA ry) dd fun h' wk hs => h _ ?_
    have he : ∃ q, h'.get? a = some q := let ⟨q, _, _, hq, _⟩ := wk; ⟨q, hq⟩
    exact ql I (by rw [e]; exact True.intro) hs he (Hz hl hd (rel.put k rv) wk)
  · subst ey eH
    cases (show u = Value.ref b from ry)
    obtain ⟨z, hd, xs, rel, dd⟩ := DJ I.hok e
    have hz : xs.length ≤ sizeLine := by rw [← Paired.length rel]; exact z
    have hl : (putK ao k v).length ≤ sizeLine := by have := nV ao k v; omega
    refine wpAny_setItem_heap (hsz := hz) (tupleKind_room_in1 hu) (mG I.hok eb) dd fun h' wk hs => h _ ?_
    obtain ⟨q, es, ep, hq, h2, h3, h4, _, h5⟩ := wk
    refine ql I (by rw [e]; exact True.intro) hs ⟨q, hq⟩ ⟨hl, hd, _, (rel.put k eb rv).keeps fun c ys ec => ?_, q, es, ep, hq, h2, h3, h4, h5⟩
    rw [ae (wN ec e (fun z => nomatch z))]
    exact ec
end
noncomputable def Cd (i : Expr) : Prop := ∀ ov iv, subscripted i false ov iv = operate [ov, iv] (getItem ov iv)
theorem EK {prog : Program} {w : World} {A : Around} {E : Value → Shared → Prop} {s : Shared} {env : Env} {value slice : Expr} {pos : Pos} {T id : String} {Q : Value → Shared → Prop}
    (hl : typeLookup (.type T) "__getitem__" = pure (some (.builtin id))) (hs : Cd slice)
    (h : wpAny (model prog w) A (eval value env) (fun o au => wpAny (model prog w) A (eval slice env) (fun i fW => fW.TypeIs o T ∧ wpAny (model prog w) A (getItem o i) Q E fW) E au) E s) :
    wpAny (model prog w) A (eval (.Subscript value slice pos) env) Q E s := by
  refine Subscript_ (wpAny_mono h (fun o au dy => wpAny_mono dy (fun i fW Ce => ?_) fun _ _ x => x) fun _ _ x => x)
  obtain ⟨hT, Ce⟩ := Ce
  unfold subscriptTail
  refine wpAny_bind ?_
  rw [getitemInPython_of_ne hT.not_modules]
  refine wpAny_bind (wpAny_specialOf hT hl ?_)
  have fin : wpAny (model prog w) A (subscripted slice false o i) (fun r fv => wpAny (model prog w) A (letTemporaryGo value o r >>= fun _ => pure r) Q E fv) E fW := by
    rw [hs o i]
    exact wpAny_operating (wpAny_mono Ce (fun r fv MX => wpAny_bind (wpAny_letTemporaryGo (wpAny_pure MX))) fun _ _ x => x)
  first
    | exact wpAny_pure (wpAny_bind fin)
    | exact wpAny_bind (wpAny_pure (wpAny_bind fin))
    | exact wpAny_bind fin
theorem vn {X : Cx} {pins : List (Addr × Obj)} {σ : St} {H : Hp} {s : Shared} {a : Addr} {y : V} {o : Option V} (I : Inv X pins σ H s) (g : qk H a y o) : s.TypeIs (.ref a) "dict" := by
  rcases g with ⟨ao, k, e, _, _⟩ | ⟨ao, k, b, e, _, _, _⟩
  · obtain ⟨_, _, vs, _, dd⟩ := sC I.hok e
    exact dd.typeIs
  · obtain ⟨_, _, xs, _, dd⟩ := pj I.hok e
    exact dd.typeIs
noncomputable def JI (td ty : TE) : TE := fun σ H Q => td σ H fun x H1 => ty σ H1 fun y H2 => ∃ a v, x = .ref a ∧ qk H2 a y (some v) ∧ Q v H2
noncomputable def JK (td ty tv : TE) : TS := fun D σ H => tv σ H fun v H1 => td σ H1 fun x H2 => ty σ H2 fun y H3 => ∃ a H4, x = .ref a ∧ Hy H3 a y v H4 ∧ D.nx σ H4
section
variable {X : Cx} {o i e value : Expr} {pos pos' P2 : Pos} {td ty tv : TE}
theorem EL (hu : X.A.units + 1 < cLine) (ho : PE X o td) (hi : PE X i ty) (hs : Cd i) : PE X (.Subscript o i pos) (JI td ty) := by
  refine ⟨?_⟩
  intro pins s σ H Q I h
  refine EK PySem.F.slot_dict_getitem.lookup hs (thn (ho pins s σ H _ I h) fun u s1 ⟨x, H1, I1, rx, q1⟩ => thn (hi pins s1 σ H1 _ I1 q1) fun iv s2 ⟨y, H2, I2, ry, a, v, ex, g, q2⟩ => ?_)
  subst ex
  obtain rfl : u = Value.ref a := rx
  exact ⟨vn I2 g, zO hu I2 g ry fun w' s3 I3 ka => ⟨v, H2, I3, ka, q2⟩⟩
theorem ER (hu : X.A.units + 1 < cLine) (ho : PE X o td) (hi : PE X i ty) (hv : PE X value tv) (hs : swapsWith value (some (.Subscript o i pos')) pos.line X.env = pure false) :
    PS X (.Assign [.Subscript o i pos'] value pos) (JK td ty tv) := by
  refine ⟨?_⟩
  intro pins s σ H D I h
  refine wpAny_Assign_Subscript (thn (hv pins s σ H _ I h) fun r s1 ⟨v, H1, I1, rv, q1⟩ => thn (ho pins s1 σ H1 _ I1 q1) fun u s2 ⟨x, H2, I2, rx, q2⟩ => thn (hi pins s2 σ H2 _ I2 q2) fun iv s3 ⟨y, H3, I3, ry, a, H4, ex, g, q3⟩ => ?_) hs
  subst ex
  obtain rfl : u = Value.ref a := rx
  exact zP hu I3 g ry rv fun s4 I4 => ⟨σ, H4, I4, q3⟩
end
theorem t5 {P : Program} {w : World} {H : Hp} (h : Heap) (hb : sysModules < h.objs.size) : ObjOk P w H (h.push { cls := .type "dict", data := .dict #[] }) h.objs.size (.dT []) :=
  ⟨Nat.zero_le _, beq_eq_false_iff_ne.mpr (Ne.symm (Nat.ne_of_lt hb)), [], .nil, _, #[], 0, Heap.get?_push_size _ rfl, ⟨rfl, rfl, rfl⟩, rfl, rfl, List.nodup_nil⟩
noncomputable def HA : TE := fun _ H Q => ∀ p, H p = none → Q (.ref p) (upd H p (.dT []))
section
variable {X : Cx} {pos : Pos}
theorem Cg : PE X (.Dict [] [] pos) HA := ⟨fun pins s σ H Q I h =>
  wpAny_Dict_empty ⟨.ref s.heap.objs.size, _, I.laid (a := s.heap.objs.size) (o := .dT []) (t' := s.toks) (fun _ _ q => Heap.get?_push_of_some _ q) (Nat.le_refl _) (t5 s.heap I.big), rfl, h _ (I.hok.fresh (Nat.le_refl _))⟩⟩
end
structure M1 (X : Cx) (o : Expr) (m : Str) (apos : Pos) (e : Expr) (bG : Pos) : Prop where
  base : attributeBase o m X.env (eval o X.env) = eval o X.env
  few : ((backTo bG (starEach [e] X.env)).all (fun x => !x.1) && (backToKw bG (keywordEach [] X.env)).all (fun x => x.1.isSome)
    && decide (([e] : List Expr).length + ([] : List Keyword).length + (if ([] : List Keyword).isEmpty then 0 else 1) < 30)) = true
  line : (apos.endLine == bG.line) = true
  trees : backTo bG (starEach [e] X.env) = [(false, eval e X.env)]
structure M2 (X : Cx) (o : Expr) (m : Str) (apos : Pos) (e f : Expr) (bG : Pos) : Prop where
  base : attributeBase o m X.env (eval o X.env) = eval o X.env
  few : ((backTo bG (starEach [e, f] X.env)).all (fun x => !x.1) && (backToKw bG (keywordEach [] X.env)).all (fun x => x.1.isSome)
    && decide (([e, f] : List Expr).length + ([] : List Keyword).length + (if ([] : List Keyword).isEmpty then 0 else 1) < 30)) = true
  line : (apos.endLine == bG.line) = true
  trees : backTo bG (starEach [e, f] X.env) = [(false, eval e X.env), (false, eval f X.env)]
inductive Dv where
  | int (i : Int) | bl (b : Bool) | aq | str (z : Str) | tup (xs : List Dv) | lst (xs : List Dv) | set (ns : List Int) | ptr (a : Addr) | exc (C : Addr) | bO (ns : List Int) | raw (v : V) | dk (ks : List Key) (ds : List Dv) | dt (ks : List (List Key)) (ds : List Dv) | cK (f : Addr) (o : Obj) (c : Addr) (oc : Obj) (vs : List V) (ds : List Dv)
inductive Mo where
  | lst (xs : List Dv) | bag | dk (ks : List Key) (ds : List Dv) | dt (ks : List (List Key)) (ds : List Dv)
noncomputable abbrev Mh := Addr → Option Mo
structure cU where
  g : List Addr
  l : List (Addr × Str)
instance : Membership Addr cU := ⟨fun t a => a ∈ t.g⟩
noncomputable def DK : HO → Bool
  | .cf _ => true
  | .lam _ => true
  | .dK _ => true
  | .dT _ => true
  | _ => false
noncomputable def zQ : HO → Bool
  | .cf _ => false
  | _ => true
noncomputable def t6 : HO → Bool
  | .dK _ => true
  | .dT _ => true
  | _ => false
theorem Rd.map {H H' : Hp} {a : Addr} {u : HO} (e : Rd H a u) (k : ∀ x, H a = some x → H' a = some x) : Rd H' a u := e.imp (k _) fun ⟨o, h⟩ => ⟨o, k _ h⟩
theorem Rd.mH {H H' : Hp} {a : Addr} {u : HO} (e : Rd H a u) (hu : t6 u = true) (k : ∀ x, zQ x = true → H a = some x → H' a = some x) : Rd H' a u := e.imp (k _ (by cases u <;> first | rfl | cases hu)) fun ⟨o, h⟩ => ⟨o, k _ rfl h⟩
theorem Rd.there {H : Hp} {a : Addr} {u : HO} (e : Rd H a u) : ∃ x, H a = some x := e.elim (fun h => ⟨_, h⟩) fun ⟨o, h⟩ => ⟨_, h⟩
noncomputable def Tg (o o' : HO) : Prop := (∃ ps c5 : Array Value, o = .cf ps ∧ o' = .cf c5 ∧ TriplesOk c5.toList) ∨ (∃ ps c5 : Array Value, o = .lam ps ∧ o' = .lam c5) ∨ (t6 o = true ∧ ∃ ob, o' = .fm ob o)
theorem Tg.trans {a b c : HO} (x : Tg a b) (y : Tg b c) : Tg a c := by
  rcases x with ⟨p, q, rfl, rfl, t⟩ | ⟨p, q, rfl, rfl⟩ | ⟨hd, ob, rfl⟩
  · rcases y with ⟨p2, q2, e, rfl, t2⟩ | ⟨p2, q2, e, _⟩ | ⟨e, _⟩
    · exact .inl ⟨p, q2, rfl, rfl, t2⟩
    · cases e
    · cases e
  · rcases y with ⟨p2, q2, e, _⟩ | ⟨p2, q2, e, rfl⟩ | ⟨e, _⟩
    · cases e
    · exact .inr (.inl ⟨p, q2, rfl, rfl⟩)
    · cases e
  · rcases y with ⟨p2, q2, e, _⟩ | ⟨p2, q2, e, _⟩ | ⟨e, _⟩ <;> cases e
theorem Tg.tab {a b : HO} (x : Tg a b) : DK a = true := by
  rcases x with ⟨p, q, rfl, rfl, _⟩ | ⟨p, q, rfl, rfl⟩ | ⟨hd, ob, rfl⟩
  · rfl
  · rfl
  · cases a <;> first | rfl | cases hd
noncomputable def MY (H : Hp) (q : Str) (cv : Value) : Prop := ∃ (c : Addr) (oc : Obj) (u : HO) (vs : Array Value) (t : Tok), cv = Value.ref c ∧ H c = some (.fm oc u) ∧ oc.data = .fields vs ∧ vs[1]? = some (Value.str q t)
noncomputable def Lm (H : Hp) (p : Addr × Str) : Prop := ∃ ps : Array Value, H p.1 = some (.lam ps) ∧ TriplesOk ps.toList ∧ ∀ pos cv, codeAmong pos ps.toList = some cv → MY H p.2 cv
theorem Lm.keep {H H' : Hp} {p : Addr × Str} (h : Lm H p) (k1 : ∀ ps, H p.1 = some (.lam ps) → H' p.1 = some (.lam ps)) (k2 : ∀ c oc u, H c = some (.fm oc u) → H' c = some (.fm oc u)) : Lm H' p := by
  obtain ⟨ps, e, t, c⟩ := h
  refine ⟨ps, k1 _ e, t, fun pos cv q => ?_⟩
  obtain ⟨a, oc, u, vs, tk, e1, e2, r⟩ := c pos cv q
  exact ⟨a, oc, u, vs, tk, e1, k2 _ _ _ e2, r⟩
structure Bz where
  P : Program
  w : World
  K : PySem.W.Frag
  tb : cU
  hid : List Addr
noncomputable def Fz (β : Bz) (M : Mh) (a : Addr) : Prop := M a = none ∧ a ∉ β.hid
noncomputable def Kl (K : PySem.W.Frag) (a : Addr) (ns : List Int) : Prop := ∃ (o : Obj) (its : Array Value) (n : Nat), K.lookup a = some o ∧ o.cls = .type "list" ∧ o.dict = none ∧ o.data = .seq its n ∧ its.size ≤ sizeLine ∧ Vals (ns.map V.int) its.toList
inductive Rz (β : Bz) (M : Mh) (H : Hp) : V → Dv → Prop where
  | int (i : Int) : Rz β M H (.int i) (.int i)
  | bl (b : Bool) : Rz β M H (.bl b) (.bl b)
  | aq : Rz β M H .aq .aq
  | str (z : Str) : Rz β M H (.str z) (.str z)
  | tup {a : Addr} {vs : List V} {ds : List Dv} (m : Fz β M a) (e : H a = some (.tup vs)) (hl : vs.length = ds.length) (h : ∀ (i : Nat) (v : V) (d : Dv), vs[i]? = some v → ds[i]? = some d → Rz β M H v d) : Rz β M H (.ref a) (.tup ds)
  | lst {a : Addr} {vs : List V} {ds : List Dv} (m : Fz β M a) (e : H a = some (.lst vs)) (hl : vs.length = ds.length) (h : ∀ (i : Nat) (v : V) (d : Dv), vs[i]? = some v → ds[i]? = some d → Rz β M H v d) : Rz β M H (.ref a) (.lst ds)
  | set {a : Addr} {ns : List Int} (m : Fz β M a) (e : H a = some (fw β.P β.w a ns)) : Rz β M H (.ref a) (.set ns)
  | ptr {a : Addr} (m : (M a).isSome = true) : Rz β M H (.ref a) (.ptr a)
  | exc {a C : Addr} (m : Fz β M a) (e : H a = some (og C a)) : Rz β M H (.ref a) (.exc C)
  | bO {a : Addr} {o : Obj} {ns : List Int} (m : Fz β M a) (e : H a = some (.fm o (.lst (ns.map V.int)))) : Rz β M H (.ref a) (.bO ns)
  | b7 {a : Addr} {ns : List Int} (m : Fz β M a) (e : H a = some (.lst (ns.map V.int))) : Rz β M H (.ref a) (.bO ns)
  | b8 {a : Addr} {ns : List Int} (e : Kl β.K a ns) : Rz β M H (.ref a) (.bO ns)
  | raw (v : V) : Rz β M H v (.raw v)
  | dk {a : Addr} {ks : List Key} {vs : List V} {ds : List Dv} (m : Fz β M a) (e : Rd H a (.dK (ks.zip vs))) (hk : ks.length = vs.length) (hl : vs.length = ds.length) (h : ∀ (i : Nat) (v : V) (d : Dv), vs[i]? = some v → ds[i]? = some d → Rz β M H v d) : Rz β M H (.ref a) (.dk ks ds)
  | dt {a : Addr} {ks : List (List Key)} {vs : List V} {ds : List Dv} (m : Fz β M a) (e : Rd H a (.dT (ks.zip vs))) (hk : ks.length = vs.length) (hl : vs.length = ds.length) (h : ∀ (i : Nat) (v : V) (d : Dv), vs[i]? = some v → ds[i]? = some d → Rz β M H v d) : Rz β M H (.ref a) (.dt ks ds)
  | cK {f c : Addr} {o oc : Obj} {u uc : HO} {vs : List V} {ds : List Dv} (m : Fz β M f) (e : H f = some (.fm o u)) (m2 : Fz β M c) (e2 : H c = some (.fm oc uc)) (hl : vs.length = ds.length) (h : ∀ (i : Nat) (v : V) (d : Dv), vs[i]? = some v → ds[i]? = some d → Rz β M H v d) : Rz β M H (.ref f) (.cK f o c oc vs ds)
structure bb (β : Bz) (M : Mh) (H : Hp) (vs : List V) (ds : List Dv) : Prop where
  len : vs.length = ds.length
  at' : ∀ (i : Nat) (v : V) (d : Dv), vs[i]? = some v → ds[i]? = some d → Rz β M H v d
noncomputable def rk (β : Bz) (M : Mh) (H : Hp) (a : Addr) : Mo → Prop
  | .lst ds => ∃ vs, H a = some (.lst vs) ∧ bb β M H vs ds
  | .bag => bH H a
  | .dk ks ds => ∃ vs, H a = some (.dK (ks.zip vs)) ∧ ks.length = vs.length ∧ bb β M H vs ds
  | .dt ks ds => ∃ vs, H a = some (.dT (ks.zip vs)) ∧ ks.length = vs.length ∧ bb β M H vs ds
noncomputable def mI : HO → Bool
  | .lst _ => true
  | .set _ _ => true
  | .dK _ => true
  | .dT _ => true
  | .ext _ => true
  | .cf _ => true
  | _ => false
noncomputable def xK (H : Hp) (a : Addr) : Prop := ∃ o, H a = some o ∧ mI o = true
theorem xK.upd {H : Hp} {a p : Addr} {o : HO} (h : xK H a) (d : H p = none ∨ mI o = true) : xK (upd H p o) a := by
  obtain ⟨u, e, n⟩ := h
  by_cases z : a = p
  · subst z
    rcases d with d | d
    · rw [e] at d; cases d
    · exact ⟨o, aj, d⟩
  · exact ⟨u, by rw [ae z]; exact e, n⟩
structure Mz (β : Bz) (M : Mh) (H : Hp) : Prop where
  obj : ∀ a o, M a = some o → rk β M H a o
  tabs : oV β.tb.g H
  hids : ∀ a ∈ β.hid, xK H a
  apart : ∀ a o, M a = some o → a ∉ β.hid
  lams : ∀ p ∈ β.tb.l, Lm H p
structure Ey (M : Mh) (H : Hp) (M' : Mh) (H' : Hp) : Prop where
  keep : ∀ b o, M b = none → H b = some o → H' b = some o ∨ ∃ o', Tg o o' ∧ H' b = some o'
  dom : ∀ a, (M a).isSome = true → (M' a).isSome = true
  new : ∀ a o, M a = none → H a = some o → M' a = none
structure Ex (β : Bz) (M : Mh) (H : Hp) (M' : Mh) (H' : Hp) : Prop extends Ey M H M' H' where
  mz : Mz β M' H'
section
variable {β : Bz} {M M1 M2 : Mh} {H H1 H2 : Hp}
theorem Ey.refl : Ey M H M H := ⟨fun _ _ _ h => .inl h, fun _ h => h, fun _ _ h _ => h⟩
theorem Ex.refl (m : Mz β M H) : Ex β M H M H := ⟨.refl, m⟩
theorem Ey.trans (x : Ey M H M1 H1) (y : Ey M1 H1 M2 H2) : Ey M H M2 H2 := by
  refine ⟨fun b o hm h => ?_, fun a h => y.dom a (x.dom a h), fun a o hm h => ?_⟩
  · have kg := x.new b o hm h
    rcases x.keep b o hm h with q | ⟨o1, t, q⟩
    · exact y.keep b o kg q
    · rcases y.keep b _ kg q with q2 | ⟨o2, t2, q2⟩
      · exact .inr ⟨o1, t, q2⟩
      · exact .inr ⟨o2, t.trans t2, q2⟩
  · have kg := x.new a o hm h
    rcases x.keep a o hm h with q | ⟨o1, t, q⟩
    · exact y.new a _ kg q
    · exact y.new a _ kg q
theorem Ex.trans (x : Ex β M H M1 H1) (y : Ex β M1 H1 M2 H2) : Ex β M H M2 H2 := ⟨x.toEy.trans y.toEy, y.mz⟩
theorem Ey.get (x : Ey M H M1 H1) {b : Addr} {o : HO} (m : M b = none) (h : H b = some o) (n : DK o = false) : H1 b = some o := by
  rcases x.keep b o m h with q | ⟨o', e, _⟩
  · exact q
  · rw [e.tab] at n; cases n
theorem Ey.rd (x : Ey M H M1 H1) {b : Addr} {u : HO} (m : M b = none) (h : Rd H b u) (hu : t6 u = true) : Rd H1 b u := by
  rcases h with h | ⟨o, h⟩
  · rcases x.keep b u m h with q | ⟨o', t, q⟩
    · exact .inl q
    · rcases t with ⟨_, _, rfl, _⟩ | ⟨_, _, rfl, _⟩ | ⟨_, ob, rfl⟩
      · cases hu
      · cases hu
      · exact .inr ⟨ob, q⟩
  · exact .inr ⟨o, x.get m h rfl⟩
theorem Ey.gone (x : Ey M H M1 H1) {b : Addr} (h : H1 b = none) : M b = none → H b = none := fun m => by
  cases e : H b with
  | none => rfl
  | some o =>
    rcases x.keep b o m e with q | ⟨_, _, q⟩ <;> (rw [h] at q; cases q)
theorem Rz.ey (x : Ey M H M1 H1) {v : V} {d : Dv} (h : Rz β M H v d) : Rz β M1 H1 v d := by
  induction h with
  | int i => exact .int i
  | bl b => exact .bl b
  | aq => exact .aq
  | str z => exact .str z
  | tup m e hl h ih => exact .tup ⟨x.new _ _ m.1 e, m.2⟩ (x.get m.1 e rfl) hl ih
  | lst m e hl h ih => exact .lst ⟨x.new _ _ m.1 e, m.2⟩ (x.get m.1 e rfl) hl ih
  | dk m e hk hl h ih => exact .dk ⟨x.new _ _ m.1 e.there.choose_spec, m.2⟩ (x.rd m.1 e rfl) hk hl ih
  | dt m e hk hl h ih => exact .dt ⟨x.new _ _ m.1 e.there.choose_spec, m.2⟩ (x.rd m.1 e rfl) hk hl ih
  | cK m e m2 e2 hl h ih => exact .cK ⟨x.new _ _ m.1 e, m.2⟩ (x.get m.1 e rfl) ⟨x.new _ _ m2.1 e2, m2.2⟩ (x.get m2.1 e2 rfl) hl ih
  | set m e => exact .set ⟨x.new _ _ m.1 e, m.2⟩ (x.get m.1 e rfl)
  | ptr m => exact .ptr (x.dom _ m)
  | exc m e => exact .exc ⟨x.new _ _ m.1 e, m.2⟩ (x.get m.1 e rfl)
  | bO m e => exact .bO ⟨x.new _ _ m.1 e, m.2⟩ (x.get m.1 e rfl)
  | b7 m e => exact .b7 ⟨x.new _ _ m.1 e, m.2⟩ (x.get m.1 e rfl)
  | b8 e => exact .b8 e
  | raw v => exact .raw v
theorem Rz.ex (x : Ex β M H M1 H1) {v : V} {d : Dv} (h : Rz β M H v d) : Rz β M1 H1 v d := h.ey x.toEy
theorem bb.ex (x : Ex β M H M1 H1) {vs : List V} {ds : List Dv} (h : bb β M H vs ds) : bb β M1 H1 vs ds := ⟨h.len, fun i v d a b => (h.at' i v d a b).ex x⟩
theorem bb.nil : bb β M H [] [] := ⟨rfl, fun i v d h => by simp at h⟩
theorem bb.cons {v : V} {d : Dv} {vs : List V} {ds : List Dv} (h : Rz β M H v d) (t : bb β M H vs ds) : bb β M H (v :: vs) (d :: ds) := ⟨by simp [t.len], fun i x y a b => by
  cases i with
  | zero => simp at a b; subst a b; exact h
  | succ i => rw [List.getElem?_cons_succ] at a b; exact t.at' i x y a b⟩
theorem bb.head {v : V} {d : Dv} {vs : List V} {ds : List Dv} (h : bb β M H (v :: vs) (d :: ds)) : Rz β M H v d := h.at' 0 v d rfl rfl
theorem bb.tail {v : V} {d : Dv} {vs : List V} {ds : List Dv} (h : bb β M H (v :: vs) (d :: ds)) : bb β M H vs ds := ⟨by simpa using h.len, fun i x y a b => h.at' (i + 1) x y (by rw [List.getElem?_cons_succ]; exact a) (by rw [List.getElem?_cons_succ]; exact b)⟩
theorem bb.append {vs zR : List V} {ds gp : List Dv} (h : bb β M H vs ds) (t : bb β M H zR gp) : bb β M H (vs ++ zR) (ds ++ gp) := ⟨by simp [h.len, t.len], fun i x y a b => by
  rw [List.getElem?_append] at a b
  rw [h.len] at a
  split at b
  · rename_i z
    rw [if_pos z] at a
    exact h.at' i x y a b
  · rename_i z
    rw [if_neg z] at a
    exact t.at' _ x y a b⟩
theorem bb.snoc {v : V} {d : Dv} {vs : List V} {ds : List Dv} (t : bb β M H vs ds) (h : Rz β M H v d) : bb β M H (vs ++ [v]) (ds ++ [d]) := t.append (.cons h .nil)
theorem bb.get {vs : List V} {ds : List Dv} (h : bb β M H vs ds) {i : Nat} {d : Dv} (e : ds[i]? = some d) : ∃ v, vs[i]? = some v ∧ Rz β M H v d := by
  have hi := (List.getElem?_eq_some_iff.mp e).1
  have gz : i < vs.length := by rw [h.len]; exact hi
  exact ⟨vs[i], List.getElem?_eq_getElem gz, h.at' i _ _ (List.getElem?_eq_getElem gz) e⟩
theorem bb.get' {vs : List V} {ds : List Dv} (h : bb β M H vs ds) {i : Nat} {v : V} (e : vs[i]? = some v) : ∃ d, ds[i]? = some d ∧ Rz β M H v d := by
  have hi := (List.getElem?_eq_some_iff.mp e).1
  have gz : i < ds.length := by rw [← h.len]; exact hi
  exact ⟨ds[i], List.getElem?_eq_getElem gz, h.at' i _ _ e (List.getElem?_eq_getElem gz)⟩
theorem fH {a : Addr} {vs : List V} {ds : List Dv} (m : Fz β M a) (e : H a = some (.tup vs)) (h : bb β M H vs ds) : Rz β M H (.ref a) (.tup ds) := .tup m e h.len h.at'
theorem ki {a : Addr} {vs : List V} {ds : List Dv} (m : Fz β M a) (e : H a = some (.lst vs)) (h : bb β M H vs ds) : Rz β M H (.ref a) (.lst ds) := .lst m e h.len h.at'
theorem cV {v : V} {ds : List Dv} (h : Rz β M H v (.tup ds)) : ∃ a vs, v = .ref a ∧ Fz β M a ∧ H a = some (.tup vs) ∧ bb β M H vs ds := by
  cases h with
  | tup m e hl h => exact ⟨_, _, rfl, m, e, hl, h⟩
theorem ie {v : V} {ds : List Dv} (h : Rz β M H v (.lst ds)) : ∃ a vs, v = .ref a ∧ Fz β M a ∧ H a = some (.lst vs) ∧ bb β M H vs ds := by
  cases h with
  | lst m e hl h => exact ⟨_, _, rfl, m, e, hl, h⟩
theorem aG {v : V} {i : Int} (h : Rz β M H v (.int i)) : v = .int i := by cases h; rfl
theorem c7 {v : V} {b : Bool} (h : Rz β M H v (.bl b)) : v = .bl b := by cases h; rfl
theorem bB {v : V} {z : Str} (h : Rz β M H v (.str z)) : v = .str z := by cases h; rfl
theorem ig {v : V} (h : Rz β M H v .aq) : v = .aq := by cases h; rfl
theorem jR {v u : V} (h : Rz β M H v (.raw u)) : v = u := by cases h; rfl
theorem cX {v : V} {a : Addr} (h : Rz β M H v (.ptr a)) : v = .ref a ∧ (M a).isSome = true := by cases h with | ptr m => exact ⟨rfl, m⟩
theorem rm {v : V} {ns : List Int} (h : Rz β M H v (.set ns)) : ∃ a, v = .ref a ∧ Fz β M a ∧ H a = some (fw β.P β.w a ns) := by cases h with | set m e => exact ⟨_, rfl, m, e⟩
theorem mJ {v : V} {C : Addr} (h : Rz β M H v (.exc C)) : ∃ a, v = .ref a ∧ Fz β M a ∧ H a = some (og C a) := by cases h with | exc m e => exact ⟨_, rfl, m, e⟩
theorem rp {v : V} {ns : List Int} (h : Rz β M H v (.bO ns)) : ∃ a, v = .ref a ∧ a8 β.K H a (ns.map V.int) := by
  cases h with
  | bO m e => exact ⟨_, rfl, .inl (.inr ⟨_, e⟩)⟩
  | b7 m e => exact ⟨_, rfl, .inl (.inl e)⟩
  | b8 e => exact ⟨_, rfl, .inr e⟩
noncomputable def t7 : HO → Bool
  | .lst _ => true
  | .dK _ => true
  | .dT _ => true
  | _ => false
theorem Mz.own (m : Mz β M H) {a : Addr} {o : Mo} (e : M a = some o) : ∃ u, H a = some u ∧ t7 u = true := by
  have q := m.obj a o e
  cases o with
  | lst ds => obtain ⟨vs, q, _⟩ := q; exact ⟨_, q, rfl⟩
  | dk ks ds => obtain ⟨vs, q, _⟩ := q; exact ⟨_, q, rfl⟩
  | dt ks ds => obtain ⟨vs, q, _⟩ := q; exact ⟨_, q, rfl⟩
  | bag => obtain ⟨_, _, q, _⟩ := q; exact ⟨_, q, rfl⟩
theorem Mz.jv (m : Mz β M H) {a : Addr} {u : HO} (h : H a = some u) (n : t7 u = false) : M a = none := by
  cases e : M a with
  | none => rfl
  | some o => obtain ⟨u', q, w⟩ := m.own e; rw [h] at q; cases q; rw [n] at w; cases w
theorem Mz.DL (m : Mz β M H) {p : Addr} (hp : p ∈ β.tb) : M p = none := let ⟨_, h, _⟩ := m.tabs p hp; m.jv h rfl
theorem Mz.zS (m : Mz β M H) {p : Addr × Str} (hp : p ∈ β.tb.l) : M p.1 = none := let ⟨_, h, _⟩ := m.lams p hp; m.jv h rfl
theorem Mz.free (m : Mz β M H) {a : Addr} (h : H a = none) : M a = none := by
  cases e : M a with
  | none => rfl
  | some o => obtain ⟨xs, q, _⟩ := m.own e; rw [h] at q; cases q
theorem Mz.fz (m : Mz β M H) {a : Addr} (h : H a = none) : Fz β M a := ⟨m.free h, fun z => by
  obtain ⟨o, e, _⟩ := m.hids a z
  rw [h] at e
  cases e⟩
theorem Ci {p a : Addr} {o : HO} (h : ∃ u, H a = Option.some u) : ∃ u, upd H p o a = Option.some u := by
  unfold upd
  split
  · exact ⟨_, rfl⟩
  · exact h
theorem Ex.lay (m : Mz β M H) {p : Addr} (h : H p = none) (o : HO) : Ex β M H M (upd H p o) := by
  have pre : ∀ b u, H b = some u → upd H p o b = some u := fun b u q => by rw [ae (av q h)]; exact q
  have rz : ∀ {v : V} {d : Dv}, Rz β M H v d → Rz β M (upd H p o) v d := fun r => by
    induction r with
    | int i => exact .int i
    | bl b => exact .bl b
    | aq => exact .aq
    | str z => exact .str z
    | tup m e hl h ih => exact .tup m (pre _ _ e) hl ih
    | lst m e hl h ih => exact .lst m (pre _ _ e) hl ih
    | dk m e hk hl h ih => exact .dk m (e.map fun _ h => pre _ _ h) hk hl ih
    | dt m e hk hl h ih => exact .dt m (e.map fun _ h => pre _ _ h) hk hl ih
    | cK m e m2 e2 hl h ih => exact .cK m (pre _ _ e) m2 (pre _ _ e2) hl ih
    | set m e => exact .set m (pre _ _ e)
    | ptr m => exact .ptr m
    | exc m e => exact .exc m (pre _ _ e)
    | bO m e => exact .bO m (pre _ _ e)
    | b7 m e => exact .b7 m (pre _ _ e)
    | b8 e => exact .b8 e
    | raw v => exact .raw v
  refine ⟨⟨fun b u _ q => .inl (pre b u q), fun _ h => h, fun _ _ h _ => h⟩, fun a u e => ?_, fun q hq => ?_, fun a ha => (m.hids a ha).upd (.inl h), m.apart, fun q hq => (m.lams q hq).keep (fun _ e => pre _ _ e) fun _ _ _ e => pre _ _ e⟩
  · have z := m.obj a u e
    cases u with
    | lst ds => obtain ⟨vs, z, l, r⟩ := z; exact ⟨vs, pre _ _ z, l, fun i v d a b => rz (r i v d a b)⟩
    | dk ks ds => obtain ⟨vs, z, hk, l, r⟩ := z; exact ⟨vs, pre _ _ z, hk, l, fun i v d a b => rz (r i v d a b)⟩
    | dt ks ds => obtain ⟨vs, z, hk, l, r⟩ := z; exact ⟨vs, pre _ _ z, hk, l, fun i v d a b => rz (r i v d a b)⟩
    | bag => obtain ⟨c, n, z, r⟩ := z; exact ⟨c, n, pre _ _ z, r⟩
  · obtain ⟨ps, e, t⟩ := m.tabs q hq
    exact ⟨ps, pre _ _ e, t⟩
theorem Ex.grow (m : Mz β M H) {p : Addr} (hp : p ∈ β.tb) {ps : Array Value} (t : TriplesOk ps.toList) : Ex β M H M (upd H p (.cf ps)) := by
  obtain ⟨Ow, DM, t0⟩ := m.tabs p hp
  have pre : ∀ b u, H b = some u → zQ u = true → upd H p (.cf ps) b = some u := fun b u q n => by
    have : b ≠ p := fun z => by subst z; rw [DM] at q; cases q; cases n
    rw [ae this]; exact q
  have rz : ∀ {v : V} {d : Dv}, Rz β M H v d → Rz β M (upd H p (.cf ps)) v d := fun r => by
    induction r with
    | int i => exact .int i
    | bl b => exact .bl b
    | aq => exact .aq
    | str z => exact .str z
    | tup m e hl h ih => exact .tup m (pre _ _ e rfl) hl ih
    | lst m e hl h ih => exact .lst m (pre _ _ e rfl) hl ih
    | dk m e hk hl h ih => exact .dk m (e.mH rfl fun x hx h => pre _ _ h hx) hk hl ih
    | dt m e hk hl h ih => exact .dt m (e.mH rfl fun x hx h => pre _ _ h hx) hk hl ih
    | cK m e m2 e2 hl h ih => exact .cK m (pre _ _ e rfl) m2 (pre _ _ e2 rfl) hl ih
    | set m e => exact .set m (pre _ _ e rfl)
    | ptr m => exact .ptr m
    | exc m e => exact .exc m (pre _ _ e rfl)
    | bO m e => exact .bO m (pre _ _ e rfl)
    | b7 m e => exact .b7 m (pre _ _ e rfl)
    | b8 e => exact .b8 e
    | raw v => exact .raw v
  refine ⟨⟨fun b u _ q => ?_, fun _ h => h, fun _ _ h _ => h⟩, fun a u e => ?_, fun q hq => ?_, fun a ha => (m.hids a ha).upd (.inr rfl), m.apart, fun q hq => (m.lams q hq).keep (fun _ e => pre _ _ e rfl) fun _ _ _ e => pre _ _ e rfl⟩
  · by_cases e : b = p
    · subst e
      rw [DM] at q
      cases q
      exact .inr ⟨_, .inl ⟨Ow, ps, rfl, rfl, t⟩, aj⟩
    · exact .inl (by rw [ae e]; exact q)
  · have z := m.obj a u e
    cases u with
    | lst ds => obtain ⟨vs, z, l, r⟩ := z; exact ⟨vs, pre _ _ z rfl, l, fun i v d a b => rz (r i v d a b)⟩
    | dk ks ds => obtain ⟨vs, z, hk, l, r⟩ := z; exact ⟨vs, pre _ _ z rfl, hk, l, fun i v d a b => rz (r i v d a b)⟩
    | dt ks ds => obtain ⟨vs, z, hk, l, r⟩ := z; exact ⟨vs, pre _ _ z rfl, hk, l, fun i v d a b => rz (r i v d a b)⟩
    | bag => obtain ⟨c, n, z, r⟩ := z; exact ⟨c, n, pre _ _ z rfl, r⟩
  · by_cases e : q = p
    · subst e; exact ⟨ps, aj, t⟩
    · obtain ⟨p2, e2, t2⟩ := m.tabs q hq
      exact ⟨p2, by rw [ae e]; exact e2, t2⟩
noncomputable def bK (M : Mh) (a : Addr) (o : Mo) : Mh := fun b => if b = a then Option.some o else M b
theorem updM_same {a : Addr} {o : Mo} : bK M a o a = Option.some o := by unfold bK; rw [if_pos rfl]
theorem bC {a b : Addr} {o : Mo} (h : b ≠ a) : bK M a o b = M b := by unfold bK; rw [if_neg h]
theorem mK {p : Addr} {o : Mo} {u : HO} (hp : (M p).isSome = true ∨ H p = none) {v : V} {d : Dv} (h : Rz β M H v d) : Rz β (bK M p o) (upd H p u) v d := by
  have ne : ∀ a x, M a = none → H a = Option.some x → a ≠ p := fun a x m e z => by
    subst z
    rcases hp with q | q
    · rw [m] at q; cases q
    · rw [q] at e; cases e
  induction h with
  | int i => exact .int i
  | bl b => exact .bl b
  | aq => exact .aq
  | str z => exact .str z
  | tup m e hl h ih => have n := ne _ _ m.1 e; exact .tup ⟨by rw [bC n]; exact m.1, m.2⟩ (by rw [ae n]; exact e) hl ih
  | lst m e hl h ih => have n := ne _ _ m.1 e; exact .lst ⟨by rw [bC n]; exact m.1, m.2⟩ (by rw [ae n]; exact e) hl ih
  | dk m e hk hl h ih => have n := ne _ _ m.1 e.there.choose_spec; exact .dk ⟨by rw [bC n]; exact m.1, m.2⟩ (e.map fun _ h => by rw [ae n]; exact h) hk hl ih
  | dt m e hk hl h ih => have n := ne _ _ m.1 e.there.choose_spec; exact .dt ⟨by rw [bC n]; exact m.1, m.2⟩ (e.map fun _ h => by rw [ae n]; exact h) hk hl ih
  | cK m e m2 e2 hl h ih => have n := ne _ _ m.1 e; have n2 := ne _ _ m2.1 e2; exact .cK ⟨by rw [bC n]; exact m.1, m.2⟩ (by rw [ae n]; exact e) ⟨by rw [bC n2]; exact m2.1, m2.2⟩ (by rw [ae n2]; exact e2) hl ih
  | set m e => have n := ne _ _ m.1 e; exact .set ⟨by rw [bC n]; exact m.1, m.2⟩ (by rw [ae n]; exact e)
  | ptr m =>
    refine .ptr ?_
    unfold bK
    split
    · rfl
    · exact m
  | exc m e => have n := ne _ _ m.1 e; exact .exc ⟨by rw [bC n]; exact m.1, m.2⟩ (by rw [ae n]; exact e)
  | bO m e => have n := ne _ _ m.1 e; exact .bO ⟨by rw [bC n]; exact m.1, m.2⟩ (by rw [ae n]; exact e)
  | b7 m e => have n := ne _ _ m.1 e; exact .b7 ⟨by rw [bC n]; exact m.1, m.2⟩ (by rw [ae n]; exact e)
  | b8 e => exact .b8 e
  | raw v => exact .raw v
theorem rk.upd {p : Addr} {o' : Mo} {u : HO} (hp : (M p).isSome = true ∨ H p = none) {a : Addr} {o : Mo} (ha : a ≠ p) (z : rk β M H a o) : rk β (bK M p o') (L2.upd H p u) a o := by
  cases o with
  | lst ds => obtain ⟨vs, z, l, r⟩ := z; exact ⟨vs, by rw [ae ha]; exact z, l, fun i v d a b => mK hp (r i v d a b)⟩
  | dk ks ds => obtain ⟨vs, z, hk, l, r⟩ := z; exact ⟨vs, by rw [ae ha]; exact z, hk, l, fun i v d a b => mK hp (r i v d a b)⟩
  | dt ks ds => obtain ⟨vs, z, hk, l, r⟩ := z; exact ⟨vs, by rw [ae ha]; exact z, hk, l, fun i v d a b => mK hp (r i v d a b)⟩
  | bag => obtain ⟨c, n, z, r⟩ := z; exact ⟨c, n, by rw [ae ha]; exact z, r⟩
theorem Ex.t7 (m : Mz β M H) {p : Addr} {u : HO} {o' : Mo} (hp : (M p).isSome = true ∨ H p = none) (hu : mI u = true) (r : rk β (bK M p o') (upd H p u) p o') : Ex β M H (bK M p o') (upd H p u) := by
  have ne : ∀ a x, M a = none → H a = Option.some x → a ≠ p := fun a x m e z => by
    subst z
    rcases hp with q | q
    · rw [m] at q; cases q
    · rw [q] at e; cases e
  refine ⟨⟨fun b u hm q => .inl ?_, fun a h => ?_, fun a o hm h => ?_⟩, fun a o e => ?_, fun q hq => ?_, fun a ha => (m.hids a ha).upd (.inr hu), fun a o e z => ?_, fun q hq => ?_⟩
  · rw [ae (ne b _ hm q)]; exact q
  · unfold bK
    split
    · rfl
    · exact h
  · rw [bC (ne a _ hm h)]; exact hm
  · by_cases ha : a = p
    · subst ha
      rw [updM_same] at e
      cases e
      exact r
    · rw [bC ha] at e
      exact (m.obj a o e).upd hp ha
  · obtain ⟨ps, e, t⟩ := m.tabs q hq
    exact ⟨ps, by rw [ae (ne q _ (m.DL hq) e)]; exact e, t⟩
  · by_cases ha : a = p
    · subst ha
      rcases hp with h | h
      · cases q : M a with
        | none => rw [q] at h; cases h
        | some u => exact m.apart a u q z
      · obtain ⟨u, hu, _⟩ := m.hids a z
        rw [h] at hu
        cases hu
    · rw [bC ha] at e
      exact m.apart a o e z
  · exact (m.lams q hq).keep (fun _ e => by rw [ae (ne q.1 _ (m.zS hq) e)]; exact e) fun c _ _ e => by rw [ae (ne c _ (m.jv e rfl) e)]; exact e
theorem Ex.MZ (m : Mz β M H) {p : Addr} {ks : List Key} {vs : List V} {ds : List Dv} (hp : (M p).isSome = true ∨ H p = none) (hk : ks.length = vs.length) (r : bb β M H vs ds) : Ex β M H (bK M p (.dk ks ds)) (upd H p (.dK (ks.zip vs))) :=
  Ex.t7 m hp rfl ⟨vs, aj, hk, r.len, fun i v d a b => mK hp (r.at' i v d a b)⟩
theorem Ex.HB (m : Mz β M H) {p : Addr} {ks : List (List Key)} {vs : List V} {ds : List Dv} (hp : (M p).isSome = true ∨ H p = none) (hk : ks.length = vs.length) (r : bb β M H vs ds) : Ex β M H (bK M p (.dt ks ds)) (upd H p (.dT (ks.zip vs))) :=
  Ex.t7 m hp rfl ⟨vs, aj, hk, r.len, fun i v d a b => mK hp (r.at' i v d a b)⟩
theorem Ex.of_keep (m : Mz β M H) (k : bq H H1) : Ex β M H M H1 := by
  have rz : ∀ {v : V} {d : Dv}, Rz β M H v d → Rz β M H1 v d := fun r => by
    induction r with
    | int i => exact .int i
    | bl b => exact .bl b
    | aq => exact .aq
    | str z => exact .str z
    | tup m e hl h ih => exact .tup m (k.tup e) hl ih
    | lst m e hl h ih => exact .lst m (k.lst e) hl ih
    | dk m e hk hl h ih => exact .dk m (e.mH rfl fun x hx h => k.get h (by intro ps z; subst z; cases hx)) hk hl ih
    | dt m e hk hl h ih => exact .dt m (e.mH rfl fun x hx h => k.get h (by intro ps z; subst z; cases hx)) hk hl ih
    | cK m e m2 e2 hl h ih => exact .cK m (k.get e (by intro ps z; cases z)) m2 (k.get e2 (by intro ps z; cases z)) hl ih
    | set m e => exact .set m (k.get e (by intro ps z; cases z))
    | ptr m => exact .ptr m
    | exc m e => exact .exc m (k.get e (by intro ps z; cases z))
    | bO m e => exact .bO m (k.get e (by intro ps z; cases z))
    | b7 m e => exact .b7 m (k.get e (by intro ps z; cases z))
    | b8 e => exact .b8 e
    | raw v => exact .raw v
  refine ⟨⟨fun b o _ h => (k b o h).imp (fun q => q) (fun ⟨ps, c5, e, q, t⟩ => ⟨_, .inl ⟨ps, c5, e, rfl, t⟩, q⟩), fun _ h => h, fun _ _ h _ => h⟩, fun a u e => ?_, m.tabs.keep k, fun a ha => by
    obtain ⟨o, e, n⟩ := m.hids a ha
    rcases k a o e with q | ⟨_, _, _, q, _⟩
    · exact ⟨_, q, n⟩
    · exact ⟨_, q, rfl⟩, m.apart, fun q hq => (m.lams q hq).keep (fun _ e => k.get e (by intro ps z; cases z)) fun _ _ _ e => k.get e (by intro ps z; cases z)⟩
  have z := m.obj a u e
  cases u with
  | lst ds => obtain ⟨vs, z, l, r⟩ := z; exact ⟨vs, k.lst z, l, fun i v d a b => rz (r i v d a b)⟩
  | dk ks ds => obtain ⟨vs, z, hk, l, r⟩ := z; exact ⟨vs, k.get z (by intro ps z; cases z), hk, l, fun i v d a b => rz (r i v d a b)⟩
  | dt ks ds => obtain ⟨vs, z, hk, l, r⟩ := z; exact ⟨vs, k.get z (by intro ps z; cases z), hk, l, fun i v d a b => rz (r i v d a b)⟩
  | bag => exact bH.keep k z
theorem Ex.t8 (m : Mz β M H) {b : Addr} (hb : M b = Option.some .bag) (k : aM b H H1) (hB : bH H1 b) : Ex β M H M H1 := by
  have ne : ∀ a, M a = none → a ≠ b := fun a q z => by subst z; rw [hb] at q; cases q
  have rz : ∀ {v : V} {d : Dv}, Rz β M H v d → Rz β M H1 v d := fun r => by
    induction r with
    | int i => exact .int i
    | bl b => exact .bl b
    | aq => exact .aq
    | str z => exact .str z
    | tup m e hl h ih => exact .tup m (k.tup (ne _ m.1) e) hl ih
    | lst m e hl h ih => exact .lst m (k.lst (ne _ m.1) e) hl ih
    | dk m e hk hl h ih => exact .dk m (e.mH rfl fun x hx h => k.get (ne _ m.1) h (by intro ps z; subst z; cases hx)) hk hl ih
    | dt m e hk hl h ih => exact .dt m (e.mH rfl fun x hx h => k.get (ne _ m.1) h (by intro ps z; subst z; cases hx)) hk hl ih
    | cK m e m2 e2 hl h ih => exact .cK m (k.get (ne _ m.1) e (by intro ps z; cases z)) m2 (k.get (ne _ m2.1) e2 (by intro ps z; cases z)) hl ih
    | set m e => exact .set m (k.get (ne _ m.1) e (by intro ps z; cases z))
    | ptr m => exact .ptr m
    | exc m e => exact .exc m (k.get (ne _ m.1) e (by intro ps z; cases z))
    | bO m e => exact .bO m (k.get (ne _ m.1) e (by intro ps z; cases z))
    | b7 m e => exact .b7 m (k.get (ne _ m.1) e (by intro ps z; cases z))
    | b8 e => exact .b8 e
    | raw v => exact .raw v
  refine ⟨⟨fun c o hm h => (k c o (ne c hm) h).imp (fun q => q) (fun ⟨ps, c5, e, q, t⟩ => ⟨_, .inl ⟨ps, c5, e, rfl, t⟩, q⟩), fun _ h => h, fun _ _ h _ => h⟩, fun a u e => ?_, fun p hp => ?_, fun a ha => ?_, m.apart, fun q hq => (m.lams q hq).keep (fun _ e => k.get (ne _ (m.zS hq)) e (by intro ps z; cases z)) fun c _ _ e => k.get (ne _ (m.jv e rfl)) e (by intro ps z; cases z)⟩
  · by_cases ha : a = b
    · subst ha
      rw [hb] at e
      cases e
      exact hB
    · have z := m.obj a u e
      cases u with
      | lst ds => obtain ⟨vs, z, l, r⟩ := z; exact ⟨vs, k.lst ha z, l, fun i v d a b => rz (r i v d a b)⟩
      | dk ks ds => obtain ⟨vs, z, hk, l, r⟩ := z; exact ⟨vs, k.get ha z (by intro ps z; cases z), hk, l, fun i v d a b => rz (r i v d a b)⟩
      | dt ks ds => obtain ⟨vs, z, hk, l, r⟩ := z; exact ⟨vs, k.get ha z (by intro ps z; cases z), hk, l, fun i v d a b => rz (r i v d a b)⟩
      | bag =>
        obtain ⟨c, n, z, r⟩ := z
        exact ⟨c, n, k.lst ha z, r⟩
  · obtain ⟨ps, e, t⟩ := m.tabs p hp
    rcases k p _ (ne p (m.DL hp)) e with q | ⟨_, c5, _, q, t'⟩
    · exact ⟨ps, q, t⟩
    · exact ⟨c5, q, t'⟩
  · obtain ⟨o, e, n⟩ := m.hids a ha
    by_cases z : a = b
    · subst z; obtain ⟨_, _, q, _⟩ := hB; exact ⟨_, q, rfl⟩
    · rcases k a o z e with q | ⟨_, _, _, q, _⟩
      · exact ⟨_, q, n⟩
      · exact ⟨_, q, rfl⟩
noncomputable abbrev Bz.add (β : Bz) (D : Addr) : Bz := { β with hid := D :: β.hid }
theorem Rz.enter {D : Addr} {o : HO} (hD : H D = none) {v : V} {d : Dv} (h : Rz β M H v d) : Rz (β.add D) M (upd H D o) v d := by
  have ne : ∀ a x, Fz β M a → H a = some x → Fz (β.add D) M a := fun a x m e => ⟨m.1, by
    intro z
    rcases List.mem_cons.mp z with z | z
    · subst z; rw [hD] at e; cases e
    · exact m.2 z⟩
  have pre : ∀ a x, H a = some x → upd H D o a = some x := fun a x e => by rw [ae (av e hD)]; exact e
  induction h with
  | int i => exact .int i
  | bl b => exact .bl b
  | aq => exact .aq
  | str z => exact .str z
  | tup m e hl h ih => exact .tup (ne _ _ m e) (pre _ _ e) hl ih
  | lst m e hl h ih => exact .lst (ne _ _ m e) (pre _ _ e) hl ih
  | dk m e hk hl h ih => exact .dk (ne _ _ m e.there.choose_spec) (e.map fun _ h => pre _ _ h) hk hl ih
  | dt m e hk hl h ih => exact .dt (ne _ _ m e.there.choose_spec) (e.map fun _ h => pre _ _ h) hk hl ih
  | cK m e m2 e2 hl h ih => exact .cK (ne _ _ m e) (pre _ _ e) (ne _ _ m2 e2) (pre _ _ e2) hl ih
  | set m e => exact .set (ne _ _ m e) (pre _ _ e)
  | ptr m => exact .ptr m
  | exc m e => exact .exc (ne _ _ m e) (pre _ _ e)
  | bO m e => exact .bO (ne _ _ m e) (pre _ _ e)
  | b7 m e => exact .b7 (ne _ _ m e) (pre _ _ e)
  | b8 e => exact .b8 e
  | raw v => exact .raw v
theorem Rz.sub {cL : Bz} (hP : cL.P = β.P) (hw : cL.w = β.w) (hK : cL.K = β.K) (hs : ∀ a, a ∈ cL.hid → a ∈ β.hid) {v : V} {d : Dv} (h : Rz β M H v d) : Rz cL M H v d := by
  have ne : ∀ a, Fz β M a → Fz cL M a := fun a m => ⟨m.1, fun z => m.2 (hs a z)⟩
  induction h with
  | int i => exact .int i
  | bl b => exact .bl b
  | aq => exact .aq
  | str z => exact .str z
  | tup m e hl h ih => exact .tup (ne _ m) e hl ih
  | lst m e hl h ih => exact .lst (ne _ m) e hl ih
  | dk m e hk hl h ih => exact .dk (ne _ m) e hk hl ih
  | dt m e hk hl h ih => exact .dt (ne _ m) e hk hl ih
  | cK m e m2 e2 hl h ih => exact .cK (ne _ m) e (ne _ m2) e2 hl ih
  | set m e => exact .set (ne _ m) (by rw [hP, hw]; exact e)
  | ptr m => exact .ptr m
  | exc m e => exact .exc (ne _ m) e
  | bO m e => exact .bO (ne _ m) e
  | b7 m e => exact .b7 (ne _ m) e
  | b8 e => exact .b8 (by rw [hK]; exact e)
  | raw v => exact .raw v
theorem Mz.sub {cL : Bz} (hP : cL.P = β.P) (hw : cL.w = β.w) (hK : cL.K = β.K) (ht : cL.tb = β.tb) (hs : ∀ a, a ∈ cL.hid → a ∈ β.hid) (m : Mz β M H) : Mz cL M H := ⟨fun a o e => by
  have z := m.obj a o e
  cases o with
  | lst ds => obtain ⟨vs, z, l, r⟩ := z; exact ⟨vs, z, l, fun i v d a b => (r i v d a b).sub hP hw hK hs⟩
  | dk ks ds => obtain ⟨vs, z, hk, l, r⟩ := z; exact ⟨vs, z, hk, l, fun i v d a b => (r i v d a b).sub hP hw hK hs⟩
  | dt ks ds => obtain ⟨vs, z, hk, l, r⟩ := z; exact ⟨vs, z, hk, l, fun i v d a b => (r i v d a b).sub hP hw hK hs⟩
  | bag => exact z, by rw [ht]; exact m.tabs, fun a ha => m.hids a (hs a ha), fun a o e z => m.apart a o e (hs a z), by rw [ht]; exact m.lams⟩
theorem Mz.enter {D : Addr} {o : HO} (hD : H D = none) (ho : mI o = true) (m : Mz β M H) : Mz (β.add D) M (upd H D o) := ⟨fun a u e => by
  have pre : ∀ a x, H a = Option.some x → upd H D o a = Option.some x := fun a x e => by rw [ae (av e hD)]; exact e
  have z := m.obj a u e
  cases u with
  | lst ds => obtain ⟨vs, z, l, r⟩ := z; exact ⟨vs, pre _ _ z, l, fun i v d a b => (r i v d a b).enter hD⟩
  | dk ks ds => obtain ⟨vs, z, hk, l, r⟩ := z; exact ⟨vs, pre _ _ z, hk, l, fun i v d a b => (r i v d a b).enter hD⟩
  | dt ks ds => obtain ⟨vs, z, hk, l, r⟩ := z; exact ⟨vs, pre _ _ z, hk, l, fun i v d a b => (r i v d a b).enter hD⟩
  | bag => obtain ⟨c, n, z, r⟩ := z; exact ⟨c, n, pre _ _ z, r⟩, fun p hp => by
  obtain ⟨ps, e, t⟩ := m.tabs p hp
  exact ⟨ps, by rw [ae (av e hD)]; exact e, t⟩, fun a ha => by
  rcases List.mem_cons.mp ha with z | z
  · subst z; exact ⟨_, aj, ho⟩
  · exact (m.hids a z).upd (.inl hD), fun a o e ha => by
  rcases List.mem_cons.mp ha with z | z
  · subst z; rw [m.free hD] at e; cases e
  · exact m.apart a o e z, fun q hq => (m.lams q hq).keep (fun _ e => by rw [ae (av e hD)]; exact e) fun _ _ _ e => by rw [ae (av e hD)]; exact e⟩
theorem Rz.over {D : Addr} {o : HO} (hD : D ∈ β.hid) {v : V} {d : Dv} (h : Rz β M H v d) : Rz β M (upd H D o) v d := by
  have pre : ∀ a x, Fz β M a → H a = some x → upd H D o a = some x := fun a x m e => by
    have n : a ≠ D := fun z => by subst z; exact m.2 hD
    rw [ae n]; exact e
  induction h with
  | int i => exact .int i
  | bl b => exact .bl b
  | aq => exact .aq
  | str z => exact .str z
  | tup m e hl h ih => exact .tup m (pre _ _ m e) hl ih
  | lst m e hl h ih => exact .lst m (pre _ _ m e) hl ih
  | dk m e hk hl h ih => exact .dk m (e.map fun _ h => pre _ _ m h) hk hl ih
  | dt m e hk hl h ih => exact .dt m (e.map fun _ h => pre _ _ m h) hk hl ih
  | cK m e m2 e2 hl h ih => exact .cK m (pre _ _ m e) m2 (pre _ _ m2 e2) hl ih
  | set m e => exact .set m (pre _ _ m e)
  | ptr m => exact .ptr m
  | exc m e => exact .exc m (pre _ _ m e)
  | bO m e => exact .bO m (pre _ _ m e)
  | b7 m e => exact .b7 m (pre _ _ m e)
  | b8 e => exact .b8 e
  | raw v => exact .raw v
theorem Mz.over {D : Addr} {o : HO} (hD : D ∈ β.hid) (ho : mI o = true) (hM : M D = none) (ht : D ∉ β.tb) (m : Mz β M H) : Mz β M (upd H D o) := ⟨fun a u e => by
  have na : a ≠ D := fun z => by subst z; rw [hM] at e; cases e
  have z := m.obj a u e
  cases u with
  | lst ds => obtain ⟨vs, z, l, r⟩ := z; exact ⟨vs, by rw [ae na]; exact z, l, fun i v d a b => (r i v d a b).over hD⟩
  | dk ks ds => obtain ⟨vs, z, hk, l, r⟩ := z; exact ⟨vs, by rw [ae na]; exact z, hk, l, fun i v d a b => (r i v d a b).over hD⟩
  | dt ks ds => obtain ⟨vs, z, hk, l, r⟩ := z; exact ⟨vs, by rw [ae na]; exact z, hk, l, fun i v d a b => (r i v d a b).over hD⟩
  | bag => obtain ⟨c, n, z, r⟩ := z; exact ⟨c, n, by rw [ae na]; exact z, r⟩, fun p hp => by
  obtain ⟨ps, e, t⟩ := m.tabs p hp
  have n : p ≠ D := fun z => by subst z; exact ht hp
  exact ⟨ps, by rw [ae n]; exact e, t⟩, fun a ha => (m.hids a ha).upd (.inr ho), m.apart, fun q hq => by
  obtain ⟨o', e', n⟩ := m.hids D hD
  exact (m.lams q hq).keep (fun _ e => by rw [ae (fun z => by subst z; rw [e'] at e; cases e; cases n)]; exact e) fun c _ _ e => by rw [ae (fun z => by subst z; rw [e'] at e; cases e; cases n)]; exact e⟩
theorem Ey.over {D : Addr} {o : HO} (x : Ey M H M1 H1) (hD : H D = none) : Ey M H M1 (upd H1 D o) := ⟨fun b u m h => by
  have nb : b ≠ D := av h hD
  rw [ae nb]
  exact x.keep b u m h, x.dom, x.new⟩
theorem Mz.Cj {D : Addr} (m : Mz β M H) (hD : H D = none) : D ∉ β.tb := fun z => by
  obtain ⟨_, e, _⟩ := m.tabs D z
  rw [hD] at e
  cases e
structure Bx (β cL : Bz) (H : Hp) : Prop where
  P : cL.P = β.P
  w : cL.w = β.w
  K : cL.K = β.K
  tb : cL.tb = β.tb
  old : ∀ a, a ∈ β.hid → a ∈ cL.hid
  new : ∀ a, a ∈ cL.hid → a ∈ β.hid ∨ H a = none
theorem Bx.refl : Bx β β H := ⟨rfl, rfl, rfl, rfl, fun _ h => h, fun _ h => .inl h⟩
theorem Bx.add {D : Addr} (hD : H D = none) : Bx β (β.add D) H := ⟨rfl, rfl, rfl, rfl, fun _ h => List.mem_cons_of_mem _ h, fun a h => by
  rcases List.mem_cons.mp h with z | z
  · exact .inr (z ▸ hD)
  · exact .inl z⟩
theorem Rz.bx {cL : Bz} (b : Bx β cL H) {v : V} {d : Dv} (h : Rz β M H v d) : Rz cL M H v d := by
  have ne : ∀ a x, Fz β M a → H a = some x → Fz cL M a := fun a x m e => ⟨m.1, fun z => by
    rcases b.new a z with q | q
    · exact m.2 q
    · rw [q] at e; cases e⟩
  induction h with
  | int i => exact .int i
  | bl b => exact .bl b
  | aq => exact .aq
  | str z => exact .str z
  | tup m e hl h ih => exact .tup (ne _ _ m e) e hl ih
  | lst m e hl h ih => exact .lst (ne _ _ m e) e hl ih
  | dk m e hk hl h ih => exact .dk (ne _ _ m e.there.choose_spec) e hk hl ih
  | dt m e hk hl h ih => exact .dt (ne _ _ m e.there.choose_spec) e hk hl ih
  | cK m e m2 e2 hl h ih => exact .cK (ne _ _ m e) e (ne _ _ m2 e2) e2 hl ih
  | set m e => exact .set (ne _ _ m e) (by rw [b.P, b.w]; exact e)
  | ptr m => exact .ptr m
  | exc m e => exact .exc (ne _ _ m e) e
  | bO m e => exact .bO (ne _ _ m e) e
  | b7 m e => exact .b7 (ne _ _ m e) e
  | b8 e => exact .b8 (by rw [b.K]; exact e)
  | raw v => exact .raw v
end
inductive Pin (M : Mh) : Dv → Prop where
  | int (i : Int) : Pin M (.int i)
  | bl (b : Bool) : Pin M (.bl b)
  | aq : Pin M .aq
  | str (z : Str) : Pin M (.str z)
  | tup {ds : List Dv} (h : ∀ d ∈ ds, Pin M d) : Pin M (.tup ds)
  | lst {ds : List Dv} (h : ∀ d ∈ ds, Pin M d) : Pin M (.lst ds)
  | set (ns : List Int) : Pin M (.set ns)
  | ptr {a : Addr} (h : (M a).isSome = true) : Pin M (.ptr a)
  | exc (C : Addr) : Pin M (.exc C)
  | bO (ns : List Int) : Pin M (.bO ns)
  | raw (v : V) : Pin M (.raw v)
  | dk {ks : List Key} {ds : List Dv} (h : ∀ d ∈ ds, Pin M d) : Pin M (.dk ks ds)
  | dt {ks : List (List Key)} {ds : List Dv} (h : ∀ d ∈ ds, Pin M d) : Pin M (.dt ks ds)
  | cK {f c : Addr} {o oc : Obj} {vs : List V} {ds : List Dv} (h : ∀ d ∈ ds, Pin M d) : Pin M (.cK f o c oc vs ds)
theorem Rz.pin {β : Bz} {M : Mh} {H : Hp} {v : V} {d : Dv} (h : Rz β M H v d) : Pin M d := by
  induction h with
  | int i => exact .int i
  | bl b => exact .bl b
  | aq => exact .aq
  | str z => exact .str z
  | tup m e hl h ih =>
    refine .tup fun d hd => ?_
    obtain ⟨i, hi⟩ := List.mem_iff_getElem?.mp hd
    have h1 := (List.getElem?_eq_some_iff.mp hi).1
    exact ih i _ d (List.getElem?_eq_getElem (by omega)) hi
  | lst m e hl h ih =>
    refine .lst fun d hd => ?_
    obtain ⟨i, hi⟩ := List.mem_iff_getElem?.mp hd
    have h1 := (List.getElem?_eq_some_iff.mp hi).1
    exact ih i _ d (List.getElem?_eq_getElem (by omega)) hi
  | dk m e hk hl h ih =>
    refine .dk fun d hd => ?_
    obtain ⟨i, hi⟩ := List.mem_iff_getElem?.mp hd
    have h1 := (List.getElem?_eq_some_iff.mp hi).1
    exact ih i _ d (List.getElem?_eq_getElem (by omega)) hi
  | dt m e hk hl h ih =>
    refine .dt fun d hd => ?_
    obtain ⟨i, hi⟩ := List.mem_iff_getElem?.mp hd
    have h1 := (List.getElem?_eq_some_iff.mp hi).1
    exact ih i _ d (List.getElem?_eq_getElem (by omega)) hi
  | cK m e m2 e2 hl h ih =>
    refine .cK fun d hd => ?_
    obtain ⟨i, hi⟩ := List.mem_iff_getElem?.mp hd
    have h1 := (List.getElem?_eq_some_iff.mp hi).1
    exact ih i _ d (List.getElem?_eq_getElem (by omega)) hi
  | set m e => exact .set _
  | ptr m => exact .ptr m
  | exc m e => exact .exc _
  | bO m e => exact .bO _
  | b7 m e => exact .bO _
  | b8 e => exact .bO _
  | raw v => exact .raw v
noncomputable def Mo.items : Mo → List Dv
  | .lst ds => ds
  | .dk _ ds => ds
  | .dt _ ds => ds
  | .bag => []
noncomputable def Wf (M : Mh) : Prop := ∀ b o, M b = some o → ∀ d ∈ o.items, Pin M d
theorem rk.Ox {β : Bz} {M : Mh} {H : Hp} {a : Addr} {o : Mo} (h : rk β M H a o) : ∃ vs, bb β M H vs o.items := by
  cases o with
  | lst ds => obtain ⟨vs, _, rs⟩ := h; exact ⟨vs, rs⟩
  | dk ks ds => obtain ⟨vs, _, _, rs⟩ := h; exact ⟨vs, rs⟩
  | dt ks ds => obtain ⟨vs, _, _, rs⟩ := h; exact ⟨vs, rs⟩
  | bag => exact ⟨[], .nil⟩
theorem Mz.wf {β : Bz} {M : Mh} {H : Hp} (m : Mz β M H) : Wf M := fun b o e d hd => by
  obtain ⟨vs, rs⟩ := (m.obj b _ e).Ox
  obtain ⟨i, hi⟩ := List.mem_iff_getElem?.mp hd
  obtain ⟨v, _, r⟩ := rs.get hi
  exact r.pin
noncomputable abbrev aP := List (Option Dv)
noncomputable abbrev ZK := Dv → Mh → Prop
noncomputable abbrev aT := aP → Mh → ZK → Prop
noncomputable abbrev dG := aP → Mh → (Bool → Mh → Prop) → Prop
noncomputable abbrev gK := aP → Mh → (List Dv → Mh → Prop) → Prop
structure kZ where
  nx : aP → Mh → Prop
  rt : ZK
  bk : aP → Mh → Prop := fun _ _ => False
  ct : aP → Mh → Prop := fun _ _ => False
noncomputable abbrev cO := kZ → aP → Mh → Prop
noncomputable abbrev dP := Dv → aP → Mh → (aP → Mh → Prop) → Prop
noncomputable abbrev gL := aP → Mh → (List Dv → Mh → Prop) → Prop
structure Gz extends Bz where
  M0 : Mh
  H0 : Hp
structure Zr (Γ : Gz) (β : Bz) (M : Mh) (ρ : aP) (σ : St) (H : Hp) : Prop where
  eP : β.P = Γ.P
  ew : β.w = Γ.w
  eK : β.K = Γ.K
  et : β.tb = Γ.tb
  sub : ∀ a, a ∈ Γ.hid → a ∈ β.hid
  wf : Wf Γ.M0
  ent : Ey Γ.M0 Γ.H0 M H
  mz : Mz β M H
  len : ρ.length = σ.length
  at' : ∀ (i : Nat) (d : Dv), ρ[i]? = some (some d) → ∃ v, σ[i]? = some (some v) ∧ Rz β M H v d
section
variable {Γ : Gz} {β : Bz} {M M' : Mh} {ρ : aP} {σ : St} {H H' : Hp}
theorem Zr.step (z : Zr Γ β M ρ σ H) (x : Ex β M H M' H') : Zr Γ β M' ρ σ H' := ⟨z.eP, z.ew, z.eK, z.et, z.sub, z.wf, z.ent.trans x.toEy, x.mz, z.len, fun i d e => let ⟨v, h, r⟩ := z.at' i d e; ⟨v, h, r.ex x⟩⟩
theorem Zr.set (z : Zr Γ β M ρ σ H) (i : Nat) {v : V} {d : Dv} (r : Rz β M H v d) : Zr Γ β M (ρ.set i (some d)) (σ.set i (some v)) H := ⟨z.eP, z.ew, z.eK, z.et, z.sub, z.wf, z.ent, z.mz, by simp [z.len], fun j e h => by
  rw [List.getElem?_set] at h ⊢
  rw [z.len] at h
  split at h
  · rename_i q
    rw [if_pos q]
    split at h
    · rename_i q2
      rw [if_pos q2]
      cases h
      exact ⟨v, rfl, r⟩
    · cases h
  · rename_i q
    rw [if_neg q]
    exact z.at' j e h⟩
end
noncomputable def lE (Γ : Gz) (p : aT) : TE := fun σ H Q => ∃ (β : Bz) (ρ : aP) (M : Mh) (Q' : ZK), Zr Γ β M ρ σ H ∧ p ρ M Q' ∧ ∀ d M' v H', Ex β M H M' H' → Rz β M' H' v d → Q' d M' → Q v H'
noncomputable def lT (Γ : Gz) (p : dG) : TT := fun σ H Q => ∃ (β : Bz) (ρ : aP) (M : Mh) (Q' : Bool → Mh → Prop), Zr Γ β M ρ σ H ∧ p ρ M Q' ∧ ∀ b M' H', Ex β M H M' H' → Q' b M' → Q b H'
noncomputable def lA (Γ : Gz) (p : gK) : TA := fun σ H Q => ∃ (β : Bz) (ρ : aP) (M : Mh) (Q' : List Dv → Mh → Prop), Zr Γ β M ρ σ H ∧ p ρ M Q' ∧ ∀ ds M' vs H', Ex β M H M' H' → bb β M' H' vs ds → Q' ds M' → Q vs H'
structure Ev (β : Bz) (M : Mh) (H : Hp) (M' : Mh) (H' : Hp) : Prop where
  keep : ∀ b o, M b = none → H b = some o → H' b = some o ∨ ∃ o', Tg o o' ∧ H' b = some o'
  new : ∀ a o, M a = none → H a = some o → M' a = none
  mz : Mz β M' H'
theorem Ex.ev {β : Bz} {M M' : Mh} {H H' : Hp} (x : Ex β M H M' H') : Ev β M H M' H' := ⟨x.keep, x.new, x.mz⟩
theorem Ev.refl {β : Bz} {M : Mh} {H : Hp} (m : Mz β M H) : Ev β M H M H := (Ex.refl m).ev
theorem Ev.trans {β : Bz} {M M1 M2 : Mh} {H H1 H2 : Hp} (x : Ev β M H M1 H1) (y : Ev β M1 H1 M2 H2) : Ev β M H M2 H2 := by
  refine ⟨fun b o hm h => ?_, fun a o hm h => ?_, y.mz⟩
  · have kg := x.new b o hm h
    rcases x.keep b o hm h with q | ⟨o1, t, q⟩
    · exact y.keep b o kg q
    · rcases y.keep b _ kg q with q2 | ⟨o2, t2, q2⟩
      · exact .inr ⟨o1, t, q2⟩
      · exact .inr ⟨o2, t.trans t2, q2⟩
  · have kg := x.new a o hm h
    rcases x.keep a o hm h with q | ⟨o1, t, q⟩
    · exact y.new a _ kg q
    · exact y.new a _ kg q
structure xM (Γ : Gz) (β : Bz) (M : Mh) (H : Hp) (D' : kZ) (D : Ends) : Prop where
  nx : ∀ cD M' aC H', Ev β M H M' H' → Zr Γ β M' cD aC H' → D'.nx cD M' → D.nx aC H'
  rt : ∀ d M' v H', Ev β M H M' H' → Ey Γ.M0 Γ.H0 M' H' → Rz β M' H' v d → D'.rt d M' → D.rt v H'
  bk : ∀ cD M' aC H', Ev β M H M' H' → Zr Γ β M' cD aC H' → D'.bk cD M' → D.bk aC H'
  ct : ∀ cD M' aC H', Ev β M H M' H' → Zr Γ β M' cD aC H' → D'.ct cD M' → D.ct aC H'
theorem xM.step {Γ : Gz} {β : Bz} {M M1 : Mh} {H H1 : Hp} {D' : kZ} {D : Ends} (r : xM Γ β M H D' D) (x : Ev β M H M1 H1) : xM Γ β M1 H1 D' D :=
  ⟨fun a b c d y => r.nx a b c d (x.trans y), fun a b c d y => r.rt a b c d (x.trans y), fun a b c d y => r.bk a b c d (x.trans y), fun a b c d y => r.ct a b c d (x.trans y)⟩
noncomputable def lS (Γ : Gz) (p : cO) : TS := fun D σ H => ∃ (β : Bz) (ρ : aP) (M : Mh) (D' : kZ), Zr Γ β M ρ σ H ∧ p D' ρ M ∧ xM Γ β M H D' D
noncomputable def lG (Γ : Gz) (p : dP) : TG := fun x σ H N => ∃ (β : Bz) (d : Dv) (ρ : aP) (M : Mh) (N' : aP → Mh → Prop), Zr Γ β M ρ σ H ∧ Rz β M H x d ∧ p d ρ M N' ∧ ∀ cD M' aC H', Ex β M H M' H' → Zr Γ β M' cD aC H' → N' cD M' → N aC H'
noncomputable def DN (β : Bz) (J : It) (ds : List Dv) (M : Mh) (H : Hp) : Prop := ∀ cL M' H', Bx β cL H → Ey M H M' H' → Mz cL M' H' → ∀ i, (i < ds.length → J.go i H' ∧ ∀ x mL, J.yld i H' x mL → Ex cL M' H' M' mL ∧ ∃ d, ds[i]? = some d ∧ Rz cL M' mL x d) ∧ (ds.length ≤ i → J.stop i H')
noncomputable def lI (Γ : Gz) (p : gL) : TI := fun σ H R => ∃ (β : Bz) (ρ : aP) (M : Mh) (R' : List Dv → Mh → Prop), Zr Γ β M ρ σ H ∧ p ρ M R' ∧ ∀ ds M' H' J, Ex β M H M' H' → DN β J ds M' H' → R' ds M' → R J H'
noncomputable abbrev QE (Γ : Gz) (X : Cx) (e : Expr) (p : aT) : Prop := PE X e (lE Γ p)
noncomputable abbrev QT (Γ : Gz) (X : Cx) (e : Expr) (p : dG) : Prop := PT X e (lT Γ p)
noncomputable abbrev QW (Γ : Gz) (X : Cx) (e : Expr) (p : dG) : Prop := PW X e (lT Γ p)
noncomputable abbrev QA (Γ : Gz) (X : Cx) (es : List Expr) (p : gK) : Prop := PA X es (lA Γ p)
noncomputable abbrev QS (Γ : Gz) (X : Cx) (s : Stmt) (p : cO) : Prop := PS X s (lS Γ p)
noncomputable abbrev kj (Γ : Gz) (X : Cx) (s : List Stmt) (p : cO) : Prop := d6 X s (lS Γ p)
noncomputable abbrev QG (Γ : Gz) (X : Cx) (e : Expr) (p : dP) : Prop := PG X e (lG Γ p)
noncomputable abbrev QI (Γ : Gz) (X : Cx) (tg e : Expr) (p : gL) : Prop := PI X tg e (lI Γ p)
section
variable {X : Cx}
theorem PE.imp {e : Expr} {t t' : TE} (h : PE X e t) (i : ∀ σ H Q, t' σ H Q → t σ H Q) : PE X e t' := ⟨fun pins s σ H Q I q => h pins s σ H Q I (i _ _ _ q)⟩
theorem PT.imp {e : Expr} {t t' : TT} (h : PT X e t) (i : ∀ σ H Q, t' σ H Q → t σ H Q) : PT X e t' := ⟨fun pins s σ H Q I q => h pins s σ H Q I (i _ _ _ q)⟩
theorem PW.imp {e : Expr} {t t' : TT} (h : PW X e t) (i : ∀ σ H Q, t' σ H Q → t σ H Q) : PW X e t' := fun wh pins s σ H Q I q => h wh pins s σ H Q I (i _ _ _ q)
theorem PA.imp {e : List Expr} {t t' : TA} (h : PA X e t) (i : ∀ σ H Q, t' σ H Q → t σ H Q) : PA X e t' := ⟨fun pos pins s σ H Q I q => h pos pins s σ H Q I (i _ _ _ q)⟩
theorem PS.imp {e : Stmt} {t t' : TS} (h : PS X e t) (i : ∀ D σ H, t' D σ H → t D σ H) : PS X e t' := ⟨fun pins s σ H D I q => h pins s σ H D I (i _ _ _ q)⟩
theorem d6.imp {e : List Stmt} {t t' : TS} (h : d6 X e t) (i : ∀ D σ H, t' D σ H → t D σ H) : d6 X e t' := ⟨fun pins s σ H D I q => h pins s σ H D I (i _ _ _ q)⟩
theorem PG.imp {e : Expr} {t t' : TG} (h : PG X e t) (i : ∀ v σ H Q, t' v σ H Q → t v σ H Q) : PG X e t' := fun pins s σ H v u Q I r q => h pins s σ H v u Q I r (i _ _ _ _ q)
theorem PI.imp {tg e : Expr} {t t' : TI} (h : PI X tg e t) (i : ∀ σ H Q, t' σ H Q → t σ H Q) : PI X tg e t' := fun pins s σ H Q I q => h pins s σ H Q I (i _ _ _ q)
theorem hV.imp {e : List Expr} {t t' : TT} (h : hV X e t) (i : ∀ σ H Q, t' σ H Q → t σ H Q) : hV X e t' := fun pins s σ H Q I q => h pins s σ H Q I (i _ _ _ q)
variable {Γ : Gz} {a b c : Expr} {pa pb pc : aT} {pos : Pos}
noncomputable def zVar (i : Nat) : aT := fun ρ M Q => match ρ[i]? with | some (some d) => Q d M | _ => False
noncomputable def zC (d : Dv) : aT := fun _ M Q => Q d M
theorem HC {i : Nat} {x : Str} (hN : X.N[i]? = some x) (hv : sN X.env.scope x) (hd : (x == ("__debug__" : Str)) = false := by decide) (fD : (x == ("__classdict__" : Str)) = false := by decide) : QE Γ X (.Name x pos) (zVar i) :=
  (yF hN hv hd fD).imp fun σ H Q ⟨β, ρ, M, Q', z, h, q⟩ => by
    unfold zVar at h
    split at h
    · rename_i d e
      obtain ⟨v, e2, r⟩ := z.at' i d e
      exact ⟨v, e2, q d M v H (.refl z.mz) r h⟩
    · exact h.elim
theorem qc {e : Expr} {v : V} {d : Dv} (h : PE X e (tC v)) (r : ∀ β M H, Rz β M H v d) : QE Γ X e (zC d) := h.imp fun σ H Q ⟨β, ρ, M, Q', z, h, q⟩ => q d M v H (.refl z.mz) (r β M H) h
theorem aU {i j pos} : QE Γ X (.Constant (.int i) j pos) (zC (.int i)) := qc aA fun _ _ _ => .int _
theorem e7 {b j pos} : QE Γ X (.Constant (.bool b) j pos) (zC (.bl b)) := qc Jk fun _ _ _ => .bl _
theorem t9 {j pos} : QE Γ X (.Constant .none j pos) (zC .aq) := qc FX fun _ _ _ => .aq
theorem bJ {x j pos} : QE Γ X (.Constant (.str x) j pos) (zC (.str x)) := qc FY fun _ _ _ => .str _
theorem ua {x : Str} {i : Int} {u : Value} (hg : Gl X x) (hm : X.mg x = some u) (r : RelV (.int i) u) (hd : (x == ("__debug__" : Str)) = false := by decide) : QE Γ X (.Name x pos) (zC (.int i)) := qc (pX hg hm r hd) fun _ _ _ => .int _
theorem ub {x z : Str} {u : Value} (hg : Gl X x) (hm : X.mg x = some u) (r : RelV (.str z) u) (hd : (x == ("__debug__" : Str)) = false := by decide) : QE Γ X (.Name x pos) (zC (.str z)) := qc (pX hg hm r hd) fun _ _ _ => .str _
theorem eS {x : Str} {v : V} {u : Value} (hg : Gl X x) (hm : X.mg x = some u) (r : RelV v u) (hd : (x == ("__debug__" : Str)) = false := by decide) : QE Γ X (.Name x pos) (zC (.raw v)) := qc (pX hg hm r hd) fun _ _ _ => .raw _
theorem gO {x : Str} {v : V} {u : Value} (hg : Gl X x) (hm : X.mg x = none) (hv : bootBuiltins x = some u) (r : RelV v u) (hn : x ≠ "__name__" := by decide) (hd : (x == ("__debug__" : Str)) = false := by decide) : QE Γ X (.Name x pos) (zC (.raw v)) := qc (Ef hg hm hv r hn hd) fun _ _ _ => .raw _
noncomputable abbrev dB := Dv → Dv → Mh → ZK → Prop
noncomputable def pq (Γ : Gz) (r : R2) (z : dB) : Prop := ∀ (β : Bz) x y d e M H Q Q', β.P = Γ.P → β.w = Γ.w → β.K = Γ.K → Mz β M H → Rz β M H x d → Rz β M H y e → z d e M Q' → (∀ d' M' v H', Ex β M H M' H' → Rz β M' H' v d' → Q' d' M' → Q v H') → r x y H Q
noncomputable def eG (Γ : Gz) (X : Cx) (f : Value → Value → Sem Value) (z : dB) : Prop := ∃ r, OpR X f r ∧ pq Γ r z
noncomputable def zOp (z : dB) (pa pb : aT) : aT := fun ρ M Q => pa ρ M fun d M1 => pb ρ M1 fun e M2 => z d e M2 Q
theorem xN {r : R2} {z : dB} (hz : pq Γ r z) {σ : St} {H : Hp} {Q : VK} (h : lE Γ (zOp z pa pb) σ H Q) : yK r (lE Γ pa) (lE Γ pb) σ H Q := by
  obtain ⟨β, ρ, M, Q', zr, h, q⟩ := h
  exact ⟨β, ρ, M, _, zr, h, fun d M1 v H1 x1 r1 h1 => ⟨β, ρ, M1, _, zr.step x1, h1, fun e M2 u H2 x2 r2 h2 => hz β v u d e M2 H2 Q Q' zr.eP zr.ew zr.eK x2.mz (r1.ex x2) r2 h2 fun d' M' v' H' x3 r3 q3 => q _ _ _ _ (x1.trans (x2.trans x3)) r3 q3⟩⟩
theorem dC {op : Operator} {z : dB} (ho : eG Γ X (binaryOp op) z) (ha : QE Γ X a pa) (hb : QE Γ X b pb) : QE Γ X (.BinOp a op b pos) (zOp z pa pb) := by
  obtain ⟨r, h1, h2⟩ := ho
  exact (bf h1 ha hb).imp fun σ H Q h => xN h2 h
theorem wm {op : CmpOp} {z : dB} (ho : eG Γ X (compareOp op) z) (ha : QE Γ X a pa) (hb : QE Γ X b pb) (hm : behindInMarks op b = false) : QE Γ X (.Compare a [op] [b] pos) (zOp z pa pb) := by
  obtain ⟨r, h1, h2⟩ := ho
  exact (Eh h1 ha hb hm).imp fun σ H Q h => xN h2 h
noncomputable def zBool (Q : Bool → Mh → Prop) : ZK := fun d M => match d with | .bl k => Q k M | _ => False
theorem jw {Q : Bool → Mh → Prop} {d : Dv} {M : Mh} (h : zBool Q d M) : ∃ k, d = .bl k ∧ Q k M := by
  unfold zBool at h
  split at h
  · exact ⟨_, rfl, h⟩
  · exact h.elim
noncomputable def zTest (p : aT) : dG := fun ρ M Q => p ρ M (zBool Q)
theorem ud {p : aT} {t : TE} (i : ∀ σ H Q, lE Γ p σ H Q → t σ H Q) {σ : St} {H : Hp} {Q : Bool → Hp → Prop} (h : lT Γ (zTest p) σ H Q) : wW t σ H Q := by
  obtain ⟨β, ρ, M, Q', zr, h, q⟩ := h
  refine i _ _ _ ⟨β, ρ, M, _, zr, h, fun d M1 v H1 x1 r1 h1 => ?_⟩
  obtain ⟨k, rfl, h2⟩ := jw h1
  exact ⟨k, c7 r1, q k M1 H1 x1 h2⟩
theorem dn {op : CmpOp} {z : dB} (ho : eG Γ X (compareOp op) z) (ha : QE Γ X a pa) (hb : QE Γ X b pb) (hm : behindInMarks op b = false) : QT Γ X (.Compare a [op] [b] pos) (zTest (zOp z pa pb)) := by
  obtain ⟨r, h1, h2⟩ := ho
  exact (ej h1 ha hb hm).imp fun σ H Q h => ud (fun _ _ _ => xN h2) h
theorem fI {e : Expr} {p : aT} (h : QE Γ X e p) (he : ∀ whole, isTrue e X.env whole = (do let v ← whole; standAt e.pos; holding [v] (truthy v)) := by intro _; rfl) : QT Γ X e (zTest p) :=
  (FZ h he).imp fun σ H Q h => ud (fun _ _ _ h => h) h
noncomputable def zChain (z z' : dB) (pa pb pc : aT) : aT := fun ρ M Q => pa ρ M fun x M1 => pb ρ M1 fun y M2 => z x y M2 (zBool fun k M3 => if k = true then pc ρ M3 fun u M4 => z' y u M4 Q else Q (.bl false) M3)
theorem wo {r r' : R2} {z z' : dB} (hz : pq Γ r z) (Oy : pq Γ r' z') {σ : St} {H : Hp} {Q : VK} (h : lE Γ (zChain z z' pa pb pc) σ H Q) : sT r r' (lE Γ pa) (lE Γ pb) (lE Γ pc) σ H Q := by
  obtain ⟨β, ρ, M, Q', zr, h, q⟩ := h
  refine ⟨β, ρ, M, _, zr, h, fun d M1 v H1 x1 r1 h1 => ⟨β, ρ, M1, _, zr.step x1, h1, fun e M2 u H2 x2 r2 h2 => hz β v u d e M2 H2 _ _ zr.eP zr.ew zr.eK x2.mz (r1.ex x2) r2 h2 fun d' M3 v' H3 x3 r3 h3 => ?_⟩⟩
  obtain ⟨k, rfl, h4⟩ := jw h3
  have wq := x1.trans (x2.trans x3)
  refine ⟨k, c7 r3, ?_⟩
  cases k with
  | true =>
    rw [if_pos rfl] at h4 ⊢
    exact ⟨β, ρ, M3, _, zr.step wq, h4, fun f M4 g H4 x4 r4 h5 => Oy β u g e f M4 H4 _ _ zr.eP zr.ew zr.eK x4.mz ((r2.ex x3).ex x4) r4 h5 fun d5 M5 v5 H5 x5 r5 q5 => q _ _ _ _ (wq.trans (x4.trans x5)) r5 q5⟩
  | false =>
    rw [if_neg Bool.false_ne_true] at h4 ⊢
    exact q _ _ _ _ wq (.bl _) h4
theorem Ck {op jb : CmpOp} {z z' : dB} (ho : eG Γ X (compareOp op) z) (fB : eG Γ X (compareOp jb) z') (ha : QE Γ X a pa) (hb : QE Γ X b pb) (hc : QE Γ X c pc) (hm : lastMarks [op, jb] [b, c] = false := by with_unfolding_all rfl) :
    QE Γ X (.Compare a [op, jb] [b, c] pos) (zChain z z' pa pb pc) := by
  obtain ⟨r, h1, h2⟩ := ho
  obtain ⟨r', HD, HE⟩ := fB
  exact (Bt h1 HD ha hb hc hm).imp fun σ H Q h => wo h2 HE h
theorem Cm {op jb : CmpOp} {z z' : dB} (ho : eG Γ X (compareOp op) z) (fB : eG Γ X (compareOp jb) z') (ha : QE Γ X a pa) (hb : QE Γ X b pb) (hc : QE Γ X c pc) (hm : lastMarks [op, jb] [b, c] = false := by with_unfolding_all rfl) :
    QT Γ X (.Compare a [op, jb] [b, c] pos) (zTest (zChain z z' pa pb pc)) := by
  obtain ⟨r, h1, h2⟩ := ho
  obtain ⟨r', HD, HE⟩ := fB
  exact (Bu h1 HD ha hb hc hm).imp fun σ H Q h => ud (fun _ _ _ => wo h2 HE) h
variable {tA yG : dG} {rest : List Expr}
noncomputable def zOr (t u : dG) : dG := fun ρ M Q => t ρ M fun c M1 => if c = true then Q true M1 else u ρ M1 Q
noncomputable def zNot (t : dG) : dG := fun ρ M Q => t ρ M fun c M1 => Q (!c) M1
theorem km (ha : QT Γ X a tA) : QW Γ X (.BoolOp .Or [a] pos) tA := F0 ha
theorem nE (ha : QT Γ X a tA) (hb : QW Γ X (.BoolOp .Or (b :: rest) pos) yG) : QW Γ X (.BoolOp .Or (a :: b :: rest) pos) (zOr tA yG) :=
  (Jl ha hb).imp fun σ H Q ⟨β, ρ, M, Q', zr, h, q⟩ => ⟨β, ρ, M, _, zr, h, fun k M1 H1 x1 h1 => by
    cases k with
    | false => rw [if_neg Bool.false_ne_true] at h1 ⊢; exact ⟨β, ρ, M1, _, zr.step x1, h1, fun k2 M2 H2 x2 h2 => q _ _ _ (x1.trans x2) h2⟩
    | true => rw [if_pos rfl] at h1 ⊢; exact q _ _ _ x1 h1⟩
theorem gB (ha : QT Γ X a tA) : QT Γ X (.UnaryOp .Not a pos) (zNot tA) := (F1 ha).imp fun σ H Q ⟨β, ρ, M, Q', zr, h, q⟩ => ⟨β, ρ, M, _, zr, h, fun k M1 H1 x1 h1 => q _ _ _ x1 h1⟩
theorem QW.pt {e : Expr} {t : dG} (h : QW Γ X e t) : QT Γ X e t := PW.pt h
noncomputable def zAndV (pa pb : aT) : aT := fun ρ M Q => pa ρ M (zBool fun c M1 => if c = true then pb ρ M1 Q else Q (.bl false) M1)
noncomputable def zNotV (pa : aT) : aT := fun ρ M Q => pa ρ M (zBool fun c M1 => Q (.bl (!c)) M1)
theorem ue {op} (h : QE Γ X a pa) : QE Γ X (.BoolOp op [a] pos) pa := F2 h
theorem uf (ha : QE Γ X a pa) (hb : QE Γ X (.BoolOp .And (b :: rest) pos) pb) : QE Γ X (.BoolOp .And (a :: b :: rest) pos) (zAndV pa pb) :=
  (F3 ha hb).imp fun σ H Q ⟨β, ρ, M, Q', zr, h, q⟩ => ⟨β, ρ, M, _, zr, h, fun d M1 v H1 x1 r1 h1 => by
    obtain ⟨k, rfl, h2⟩ := jw h1
    refine ⟨k, c7 r1, ?_⟩
    cases k with
    | true => rw [if_pos rfl] at h2 ⊢; exact ⟨β, ρ, M1, _, zr.step x1, h2, fun d2 M2 v2 H2 x2 r2 h2 => q _ _ _ _ (x1.trans x2) r2 h2⟩
    | false => rw [if_neg Bool.false_ne_true] at h2 ⊢; exact q _ _ _ _ x1 (.bl _) h2⟩
theorem HF (ha : QE Γ X a pa) : QE Γ X (.UnaryOp .Not a pos) (zNotV pa) := (F4 ha).imp fun σ H Q ⟨β, ρ, M, Q', zr, h, q⟩ => ⟨β, ρ, M, _, zr, h, fun d M1 v H1 x1 r1 h1 => by
    obtain ⟨k, rfl, h2⟩ := jw h1
    exact ⟨k, c7 r1, q _ _ _ _ x1 (.bl _) h2⟩⟩
noncomputable def zNil : gK := fun _ M Q => Q [] M
noncomputable def zCons (p : aT) (r : gK) : gK := fun ρ M Q => p ρ M fun d M1 => r ρ M1 fun ds M2 => Q (d :: ds) M2
variable {es : List Expr} {za : gK}
theorem ah : QA Γ X [] zNil := aN.imp fun σ H Q ⟨β, ρ, M, Q', zr, h, q⟩ => q [] M [] H (.refl zr.mz) .nil h
theorem aa {e : Expr} (ha : QE Γ X e pa) (hr : QA Γ X es za) (hs : starEach (e :: es) X.env = (false, eval e X.env) :: starEach es X.env := by rfl) : QA Γ X (e :: es) (zCons pa za) :=
  (aw ha hr hs).imp fun σ H Q ⟨β, ρ, M, Q', zr, h, q⟩ => ⟨β, ρ, M, _, zr, h, fun d M1 v H1 x1 r1 h1 => ⟨β, ρ, M1, _, zr.step x1, h1, fun ds M2 vs H2 x2 r2 h2 => q _ _ _ _ (x1.trans x2) (.cons (r1.ex x2) r2) h2⟩⟩
noncomputable def zTup (p : gK) : aT := fun ρ M Q => p ρ M fun ds M1 => ds.length ≤ sizeLine ∧ Q (.tup ds) M1
noncomputable def zLst (p : gK) : aT := fun ρ M Q => p ρ M fun ds M1 => ds.length ≤ sizeLine ∧ Q (.lst ds) M1
theorem c9 {x1} (h : QA Γ X es za) : QE Γ X (.Tuple es x1 pos) (zTup za) := (Gk h).imp fun σ H Q ⟨β, ρ, M, Q', zr, h, q⟩ => ⟨β, ρ, M, _, zr, h, fun ds M1 vs H1 x1 r1 h1 => ⟨by rw [r1.len]; exact h1.1, fun p hp => by
    have x2 := Ex.lay x1.mz hp (.tup vs)
    exact q _ _ _ _ (x1.trans x2) (fH (x1.mz.fz hp) aj (r1.ex x2)) h1.2⟩⟩
theorem ik (h : QA Γ X es za) : QE Γ X (.List es pos) (zLst za) := (lY h).imp fun σ H Q ⟨β, ρ, M, Q', zr, h, q⟩ => ⟨β, ρ, M, _, zr, h, fun ds M1 vs H1 x1 r1 h1 => ⟨by rw [r1.len]; exact h1.1, fun p hp => by
    have x2 := Ex.lay x1.mz hp (.lst vs)
    exact q _ _ _ _ (x1.trans x2) (ki (x1.mz.fz hp) aj (r1.ex x2)) h1.2⟩⟩
noncomputable abbrev px := List Dv → Mh → ZK → Prop
noncomputable def DP (Γ : Gz) (r : List V → Hp → VK → Prop) (z : px) : Prop := ∀ (β : Bz) xs ds M H Q Q', β.P = Γ.P → β.w = Γ.w → β.K = Γ.K → Mz β M H → bb β M H xs ds → z ds M Q' → (∀ d' M' v H', Ex β M H M' H' → Rz β M' H' v d' → Q' d' M' → Q v H') → r xs H Q
noncomputable def eJ (Γ : Gz) (X : Cx) (f : Value) (z : px) : Prop := ∃ r, cq X f r ∧ DP Γ r z
noncomputable def zCB (z : px) (p : gK) : aT := fun ρ M Q => p ρ M fun ds M1 => z ds M1 Q
theorem HG {r : List V → Hp → VK → Prop} {z : px} (hz : DP Γ r z) {σ : St} {H : Hp} {Q : VK} (h : lE Γ (zCB z za) σ H Q) : Gq r (lA Γ za) σ H Q := by
  obtain ⟨β, ρ, M, Q', zr, h, q⟩ := h
  exact ⟨β, ρ, M, _, zr, h, fun ds M1 vs H1 x1 r1 h1 => hz β vs ds M1 H1 _ _ zr.eP zr.ew zr.eK x1.mz r1 h1 fun d' M' v' H' x2 r2 q2 => q _ _ _ _ (x1.trans x2) r2 q2⟩
variable {st : Stmt} {La : List Stmt} {p p2 : cO} {e : Expr} {pe : aT}
noncomputable def zNext : cO := fun D ρ M => D.nx ρ M
noncomputable def zSeq (p q : cO) : cO := fun D ρ M => p { D with nx := q D } ρ M
theorem qss_nil : kj Γ X [] zNext := pss_nil.imp fun D σ H ⟨β, ρ, M, D', zr, h, r⟩ => r.nx ρ M σ H (.refl zr.mz) zr h
theorem az (h1 : QS Γ X st p) (h2 : kj Γ X La p2) : kj Γ X (st :: La) (zSeq p p2) := (cE h1 h2).imp fun D σ H ⟨β, ρ, M, D', zr, h, r⟩ =>
  ⟨β, ρ, M, _, zr, h, fun cD M' aC H' x gC h' => ⟨β, cD, M', D', gC, h', r.step x⟩, r.rt, r.bk, r.ct⟩
theorem ay (h1 : QS Γ X st p) : kj Γ X [st] p := cg h1
noncomputable def zDrop (p : aT) : cO := fun D ρ M => p ρ M fun _ M1 => D.nx ρ M1
theorem eA (he : QE Γ X e pe) (hs : swapsWith e none pos.line X.env = pure false := by rfl) : QS Γ X (.Expr e pos) (zDrop pe) := (pY he hs).imp fun D σ H ⟨β, ρ, M, D', zr, h, r⟩ =>
  ⟨β, ρ, M, _, zr, h, fun d M1 v H1 x1 r1 h1 => r.nx ρ M1 σ H1 x1.ev (zr.step x1) h1⟩
noncomputable def zRet (p : aT) : cO := fun D ρ M => p ρ M D.rt
theorem bj (he : QE Γ X e pe) : QS Γ X (.Return (some e) pos) (zRet pe) := (i7 he).imp fun D σ H ⟨β, ρ, M, D', zr, h, r⟩ => ⟨β, ρ, M, _, zr, h, fun d M' v H' x r1 h1 => r.rt _ _ _ _ x.ev (zr.ent.trans x.toEy) r1 h1⟩
noncomputable def zIfS (c : dG) (p q : cO) : cO := fun D ρ M => c ρ M fun b M1 => if b = true then p D ρ M1 else q D ρ M1
theorem dD {as bs : List Stmt} {pa pb : cO} (hc : QT Γ X c tA) (ha : kj Γ X as pa) (hb : kj Γ X bs pb) : QS Γ X (.If c as bs pos) (zIfS tA pa pb) := (kG hc ha hb).imp fun D σ H ⟨β, ρ, M, D', zr, h, r⟩ =>
  ⟨β, ρ, M, _, zr, h, fun k M1 H1 x1 h1 => by
    cases k with
    | true => rw [if_pos rfl] at h1 ⊢; exact ⟨β, ρ, M1, D', zr.step x1, h1, r.step x1.ev⟩
    | false => rw [if_neg Bool.false_ne_true] at h1 ⊢; exact ⟨β, ρ, M1, D', zr.step x1, h1, r.step x1.ev⟩⟩
noncomputable def zgName (i : Nat) : dP := fun d ρ M N => N (ρ.set i (some d)) M
theorem cZ {i : Nat} {x : Str} (hN : X.N.Nodup) (hi : X.N[i]? = some x) (hx : Loc X.env.scope x) (hf : X.fn x = true ∨ X.env.scope.names.lookup x = some .local := by first | exact .inl rfl | exact .inr rfl | assumption) : QG Γ X (.Name x pos) (zgName i) :=
  (dE hN hi hx hf).imp fun v σ H N ⟨β, d, ρ, M, N', zr, r, h, q⟩ => q _ _ _ _ (.refl zr.mz) (zr.set i r) h
noncomputable def zAsg (p : aT) (g : dP) : cO := fun D ρ M => p ρ M fun d M1 => g d ρ M1 D.nx
theorem JL {t : TE} (i : ∀ σ H Q, lE Γ pe σ H Q → t σ H Q) {n : Nat} {D : Ends} {σ : St} {H : Hp} (h : lS Γ (zAsg pe (zgName n)) D σ H) : wO t (iJ n) D σ H := by
  obtain ⟨β, ρ, M, D', zr, h, r⟩ := h
  exact i _ _ _ ⟨β, ρ, M, _, zr, h, fun d M1 v H1 x1 r1 h1 => r.nx _ _ _ _ x1.ev ((zr.step x1).set n r1) h1⟩
theorem cw {i : Nat} {x : Str} {pos' : Pos} (hN : X.N.Nodup) (hi : X.N[i]? = some x) (hx : Loc X.env.scope x) (he : QE Γ X e pe) (hs : swapsWith e (some (.Name x pos')) pos.line X.env = pure false := by rfl) (hf : X.fn x = true ∨ X.env.scope.names.lookup x = some .local := by first | exact .inl rfl | exact .inr rfl | assumption) :
    QS Γ X (.Assign [.Name x pos'] e pos) (zAsg pe (zgName i)) := (bT hN hi hx he hs hf).imp fun D σ H h => JL (fun _ _ _ h => h) h
end
section
variable {X : Cx} {Γ : Gz} {β : Bz}
noncomputable def ziTup (p : aT) : gL := fun ρ M R => p ρ M fun d M1 => match d with | .tup ds => R ds M1 | _ => False
noncomputable def fJ (z : Str) : List Dv := z.cps.toList.map fun c => .str ⟨#[c]⟩
noncomputable def ziStr (p : aT) : gL := fun ρ M R => p ρ M fun d M1 => match d with | .str z => R (fJ z) M1 | _ => False
noncomputable def eT (lo : Int) (n : Nat) : List Dv := (List.range n).map fun i => .int (lo + (i : Nat))
noncomputable def ziRng1 (p : gK) : gL := fun ρ M R => p ρ M fun ds M1 => match ds with | [.int j] => -(2 ^ 62) ≤ j ∧ j < 2 ^ 62 ∧ R (eT 0 j.toNat) M1 | _ => False
theorem om {J : It} {vs : List V} {ds : List Dv} {M : Mh} {H : Hp} (r : bb β M H vs ds) (h : ∀ M' H', Ey M H M' H' → Runs J vs H') : DN β J ds M H := fun cL M' H' bx x m i => by
  have q := h M' H' x i
  rw [← r.len]
  refine ⟨fun hi => ⟨(q.1 hi).1, fun v mL y => ?_⟩, q.2⟩
  obtain ⟨e, hv⟩ := (q.1 hi).2 v mL y
  subst e
  obtain ⟨d, hd, rd⟩ := r.get' hv
  exact ⟨.refl m, d, hd, (rd.bx bx).ey x⟩
variable {tg l : Expr} {p : aT} {pa : gK} {K : PySem.W.Frag}
theorem kn (hK : X.K = K) (hl : QE Γ X l p) : QI Γ X tg l (ziTup p) := (Et hK hl).imp fun σ H R ⟨β, ρ, M, R', zr, h, q⟩ => ⟨β, ρ, M, _, zr, h, fun d M1 v H1 x1 r1 h1 => by
  revert h1
  split
  · intro h1
    obtain ⟨a, vs, rfl, m, e, rs⟩ := cV r1
    exact ⟨a, rfl, ⟨_, cB.of e⟩, q _ _ _ _ x1 (om rs fun M' H' x => BL (cB.of (x.get m.1 e rfl))) h1⟩
  · exact fun h => h.elim⟩
theorem zT {z : Str} {M : Mh} {H : Hp} : bb β M H (jl z) (fJ z) := ⟨by simp [jl, fJ], fun i v d a b => by
  unfold jl at a
  unfold fJ at b
  rw [List.getElem?_map] at a b
  cases e : z.cps.toList[i]? with
  | none => rw [e] at a; cases a
  | some c => rw [e] at a b; cases a; cases b; exact .str _⟩
theorem zU (hl : QE Γ X l p) : QI Γ X tg l (ziStr p) := (GX hl).imp fun σ H R ⟨β, ρ, M, R', zr, h, q⟩ => ⟨β, ρ, M, _, zr, h, fun d M1 v H1 x1 r1 h1 => by
  revert h1
  split
  · intro h1
    exact ⟨_, bB r1, q _ _ _ _ x1 (om zT fun M' H' x => BM) h1⟩
  · exact fun h => h.elim⟩
theorem zV {lo : Int} {n : Nat} {M : Mh} {H : Hp} : bb β M H ((List.range n).map fun i => V.int (lo + (i : Nat))) (eT lo n) := ⟨by simp [eT], fun i v d a b => by
  unfold eT at b
  rw [List.getElem?_map] at a b
  cases e : (List.range n)[i]? with
  | none => rw [e] at a; cases a
  | some c => rw [e] at a b; cases a; cases b; exact .int _⟩
theorem eB {xs : List V} {d : Dv} {M : Mh} {H : Hp} (r : bb β M H xs [d]) : ∃ v, xs = [v] ∧ Rz β M H v d := by
  match xs, r with
  | [v], r => exact ⟨v, rfl, r.head⟩
  | [], r => exact absurd r.len (by simp)
  | _ :: _ :: _, r => exact absurd r.len (by simp)
theorem eC {xs : List V} {d e : Dv} {M : Mh} {H : Hp} (r : bb β M H xs [d, e]) : ∃ v u, xs = [v, u] ∧ Rz β M H v d ∧ Rz β M H u e := by
  match xs, r with
  | [v, u], r => exact ⟨v, u, rfl, r.head, r.tail.head⟩
  | [], r => exact absurd r.len (by simp)
  | [_], r => exact absurd r.len (by simp)
  | _ :: _ :: _ :: _, r => exact absurd r.len (by simp)
section
variable {e e1 e2 : Expr} {pr pos : Pos}
theorem HH {σ : St} {H : Hp} {R : It → Hp → Prop} (h : lI Γ (ziRng1 pa) σ H R) : Dm (lA Γ pa) σ H R := by
  obtain ⟨β, ρ, M, R', zr, h, q⟩ := h
  refine ⟨β, ρ, M, _, zr, h, fun ds M1 vs H1 x1 r1 h1 => ?_⟩
  revert h1
  split
  · rintro ⟨b1, b2, h1⟩
    obtain ⟨v, rfl, r⟩ := eB r1
    rw [aG r]
    exact ⟨_, rfl, b1, b2, q _ _ _ _ x1 (om zV fun M' H' x => cH) h1⟩
  · exact fun h => h.elim
end
noncomputable def zLoop (g : dP) (tb : cO) (D : kZ) : List Dv → aP → Mh → Prop
  | [], ρ, M => D.nx ρ M
  | d :: ds, ρ, M => g d ρ M fun fK M2 => tb { D with nx := zLoop g tb D ds, ct := zLoop g tb D ds, bk := D.nx } fK M2
noncomputable def zFor (zi : gL) (g : dP) (tb : cO) : cO := fun D ρ M => zi ρ M fun ds M1 => zLoop g tb D ds ρ M1
noncomputable def zForM (zi : gL) (g : dP) (tb : Mh → cO) : cO := fun D ρ M => zi ρ M fun ds M1 => zLoop g (tb M1) D ds ρ M1
theorem Zr.root {M : Mh} {ρ : aP} {σ : St} {H : Hp} (z : Zr Γ β M ρ σ H) : Zr ⟨β, M, H⟩ β M ρ σ H := ⟨rfl, rfl, rfl, rfl, fun _ h => h, z.mz.wf, .refl, z.mz, z.len, z.at'⟩
theorem Zr.zW {M M1 : Mh} {ρ Lb : aP} {σ qG : St} {H H1 : Hp} (z : Zr Γ β M ρ σ H) (y : Zr ⟨β, M, H⟩ β M1 Lb qG H1) : Zr Γ β M1 Lb qG H1 := ⟨z.eP, z.ew, z.eK, z.et, z.sub, z.wf, z.ent.trans y.ent, y.mz, y.len, y.at'⟩
theorem JM {zi : gL} {g : dP} {tb : Mh → cO} {t : TS} (hb : ∀ a9 : Gz, a9.P = Γ.P → a9.w = Γ.w → a9.K = Γ.K → a9.tb = Γ.tb → ∀ D σ H, lS a9 (tb a9.M0) D σ H → t D σ H) {tg : TG} (hg : ∀ a9 : Gz, a9.P = Γ.P → a9.w = Γ.w → a9.K = Γ.K → a9.tb = Γ.tb → ∀ x σ H N, lG a9 g x σ H N → tg x σ H N) {D : Ends} {σ : St} {H : Hp} (h : lS Γ (zForM zi g tb) D σ H) : Gd (lI Γ zi) tg t D σ H := by
  obtain ⟨β, ρ, M, D', zr, h, r⟩ := h
  refine ⟨β, ρ, M, _, zr, h, fun ds M1 H1 J x1 it h1 => ?_⟩
  have jx := zr.step x1
  refine ⟨fun i m aC H' => m = ds.length - i ∧ i ≤ ds.length ∧ ∃ cD M', Zr ⟨β, M1, H1⟩ β M' cD aC H' ∧ zLoop g (tb M1) D' (ds.drop i) cD M', ⟨ds.length, rfl, Nat.zero_le _, ρ, M1, jx.root, h1⟩, ?_⟩
  rintro i m aC H' ⟨rfl, hi, cD, M', gC, h'⟩
  have ev : ∀ {M2 : Mh} {fK : aP} {fF : St} {H2 : Hp}, Zr ⟨β, M1, H1⟩ β M2 fK fF H2 → Ev β M H M2 H2 := fun z => x1.ev.trans ⟨z.ent.keep, z.ent.new, z.mz⟩
  by_cases bo : i < ds.length
  · have q := (it β M' H' .refl gC.ent gC.mz i).1 bo
    refine .inr ⟨q.1, fun fF H2 => ∃ fK M2, Zr ⟨β, M1, H1⟩ β M2 fK fF H2 ∧ zLoop g (tb M1) D' (ds.drop (i + 1)) fK M2, fun fF H2 ⟨fK, M2, Oz, h2⟩ => ⟨ds.length - (i + 1), by omega, rfl, bo, fK, M2, Oz, h2⟩, fun v mL y => ?_⟩
    obtain ⟨x2, d, hd, rd⟩ := q.2 v mL y
    have e : ds.drop i = d :: ds.drop (i + 1) := by
      rw [List.drop_eq_getElem_cons bo]
      rw [List.getElem?_eq_getElem bo] at hd
      cases hd
      rfl
    rw [e] at h'
    refine hg ⟨β, M1, H1⟩ zr.eP zr.ew zr.eK zr.et _ _ _ _ ⟨β, d, cD, M', _, gC.step x2, rd, h', fun OA M3 lz H3 x3 OB h3 => hb ⟨β, M1, H1⟩ zr.eP zr.ew zr.eK zr.et _ _ _ ⟨β, OA, M3, _, OB, h3, ?_⟩⟩
    exact ⟨fun pz M4 zX H4 x4 lJ h4 => ⟨pz, M4, lJ, h4⟩, fun d4 M4 v4 H4 x4 e4 r4 h4 => r.rt _ _ _ _ (x1.ev.trans ⟨e4.keep, e4.new, x4.mz⟩) (jx.ent.trans e4) r4 h4, fun pz M4 zX H4 x4 lJ h4 => r.nx _ _ _ _ (ev lJ) (jx.zW lJ) h4, fun pz M4 zX H4 x4 lJ h4 => ⟨pz, M4, lJ, h4⟩⟩
  · have e : i = ds.length := by omega
    subst e
    rw [List.drop_length] at h'
    exact .inl ⟨(it β M' H' .refl gC.ent gC.mz _).2 (Nat.le_refl _), r.nx _ _ _ _ (ev gC) (jx.zW gC) h'⟩
noncomputable def OC (Γ : Gz) (p : Mh → cO) : TS := fun D σ H => ∃ a9 : Gz, a9.P = Γ.P ∧ a9.w = Γ.w ∧ a9.K = Γ.K ∧ a9.tb = Γ.tb ∧ lS a9 (p a9.M0) D σ H
noncomputable def OD (Γ : Gz) (p : dP) : TG := fun x σ H N => ∃ a9 : Gz, a9.P = Γ.P ∧ a9.w = Γ.w ∧ a9.K = Γ.K ∧ a9.tb = Γ.tb ∧ lG a9 p x σ H N
theorem EV {body : List Stmt} {iter : Expr} {zi : gL} {g : dP} {tb : Mh → cO} {pos : Pos} (hp : PassesOwn (model X.prog X.w) X.A X.env X.xe) (hc : X.calm = true) (hi : QI Γ X tg iter zi)
    (DQ : ∀ (a9 : Gz) (M1 : Mh), a9.M0 = M1 → a9.P = Γ.P → a9.w = Γ.w → a9.K = Γ.K → a9.tb = Γ.tb → QG a9 X tg g ∧ kj a9 X body (tb M1))
    (hs : ∀ x, foldedSetIterable iter X.env x = pure x := by intro _; rfl) : QS Γ X (.For tg iter body [] pos) (zForM zi g tb) :=
  (i9 (g := OD Γ g) (tb := OC Γ tb) hp hc hi (fun pins s σ H v u Q I r h => by obtain ⟨a9, e1, e2, e3, e4, h⟩ := h; exact (DQ a9 _ rfl e1 e2 e3 e4).1 pins s σ H v u Q I r h) ⟨fun pins s σ H D I h => by obtain ⟨a9, e1, e2, e3, e4, h⟩ := h; exact (DQ a9 _ rfl e1 e2 e3 e4).2 pins s σ H D I h⟩ hs).imp
    fun D σ H h => JM (fun a9 e1 e2 e3 e4 D σ H h => ⟨a9, e1, e2, e3, e4, h⟩) (fun a9 e1 e2 e3 e4 x σ H N h => ⟨a9, e1, e2, e3, e4, h⟩) h
theorem pA {body : List Stmt} {iter : Expr} {zi : gL} {g : dP} {tb : cO} {pos : Pos} (hp : PassesOwn (model X.prog X.w) X.A X.env X.xe) (hc : X.calm = true) (hi : QI Γ X tg iter zi)
    (DQ : ∀ a9 : Gz, a9.P = Γ.P → a9.w = Γ.w → a9.K = Γ.K → a9.tb = Γ.tb → QG a9 X tg g ∧ kj a9 X body tb)
    (hs : ∀ x, foldedSetIterable iter X.env x = pure x := by intro _; rfl) : QS Γ X (.For tg iter body [] pos) (zFor zi g tb) := EV (tb := fun _ => tb) hp hc hi (fun a9 M1 _ e1 e2 e3 e4 => DQ a9 e1 e2 e3 e4) hs
theorem il {a : Expr} {p pos : Pos} (hg : Gl X "range") (hm : X.mg "range" = none) (ha : QA Γ X [a] pa) (hs : starEach [a] X.env = [(false, eval a X.env)] := by rfl) : QI Γ X tg (.Call (.Name "range" p) [a] [] pos) (ziRng1 pa) := (cT hg hm ha hs).imp fun σ H R h => HH h
noncomputable def zY (c : dG) (tb : cO) : cO := fun D ρ M => ∃ W : Nat → aP → Mh → Prop, (∃ m, W m ρ M) ∧ ∀ m ρ M, W m ρ M →
  c ρ M fun b M1 => if b = true then tb { D with nx := fun cD M' => ∃ m', m' < m ∧ W m' cD M', ct := fun cD M' => ∃ m', m' < m ∧ W m' cD M', bk := D.nx } ρ M1 else D.nx ρ M1
theorem EW {c : dG} {tb : cO} {D : Ends} {σ : St} {H : Hp} (h : lS Γ (zY c tb) D σ H) : sR (lT Γ c) (lS Γ tb) D σ H := by
  obtain ⟨β, ρ, M, D', zr, ⟨W, ⟨m0, w0⟩, turn⟩, r⟩ := h
  refine ⟨fun m aC H' => ∃ cD M', Ev β M H M' H' ∧ Zr Γ β M' cD aC H' ∧ W m cD M', ⟨m0, ρ, M, .refl zr.mz, zr, w0⟩, ?_⟩
  rintro m aC H' ⟨cD, M', x', gC, w'⟩
  refine ⟨β, cD, M', _, gC, turn m cD M' w', fun k M1 H1 x1 h1 => ?_⟩
  have zZ := x'.trans x1.ev
  cases k with
  | true =>
    dsimp only at h1 ⊢
    rw [if_pos rfl] at h1 ⊢
    refine ⟨fun fF H2 => ∃ m', m' < m ∧ ∃ fK M2, Ev β M H M2 H2 ∧ Zr Γ β M2 fK fF H2 ∧ W m' fK M2, fun fF H2 h2 => h2, β, cD, M1, _, gC.step x1, h1, ?_⟩
    exact ⟨fun pz M4 zX H4 x4 lJ ⟨m', hm, w4⟩ => ⟨m', hm, pz, M4, zZ.trans x4, lJ, w4⟩, fun d4 M4 v4 H4 x4 e4 r4 h4 => r.rt _ _ _ _ (zZ.trans x4) e4 r4 h4, fun pz M4 zX H4 x4 lJ h4 => r.nx _ _ _ _ (zZ.trans x4) lJ h4, fun pz M4 zX H4 x4 lJ ⟨m', hm, w4⟩ => ⟨m', hm, pz, M4, zZ.trans x4, lJ, w4⟩⟩
  | false =>
    dsimp only at h1 ⊢
    rw [if_neg Bool.false_ne_true] at h1 ⊢
    exact r.nx _ _ _ _ zZ (gC.step x1) h1
theorem Cp {body : List Stmt} {c : Expr} {zc : dG} {tb : cO} {pos : Pos} (hp : PassesOwn (model X.prog X.w) X.A X.env X.xe) (hc : QT Γ X c zc) (hb : kj Γ X body tb) : QS Γ X (.While c body [] pos) (zY zc tb) := (sS hp hc hb).imp fun D σ H h => EW h
theorem mM {g : dP} {tb : cO} {D : kZ} (J : Nat → aP → Mh → Prop) {ds : List Dv} {ρ : aP} {M : Mh} (h0 : J 0 ρ M)
    (hs : ∀ i d ρ M (N : aP → Mh → Prop), ds[i]? = some d → J i ρ M → (∀ cD M', J (i + 1) cD M' → N cD M') → g d ρ M fun fK M2 => tb { D with nx := N, ct := N, bk := D.nx } fK M2)
    (hd : ∀ ρ M, J ds.length ρ M → D.nx ρ M) : zLoop g tb D ds ρ M := by
  have key : ∀ (n i : Nat) ρ M, n = ds.length - i → i ≤ ds.length → J i ρ M → zLoop g tb D (ds.drop i) ρ M := by
    intro n
    induction n with
    | zero =>
      intro i ρ M e hi h
      have : i = ds.length := by omega
      subst this
      rw [List.drop_length]
      exact hd _ _ h
    | succ n ih =>
      intro i ρ M e hi h
      have bo : i < ds.length := by omega
      rw [List.drop_eq_getElem_cons bo]
      exact hs i _ ρ M _ (List.getElem?_eq_getElem bo) h fun ρ M h => ih (i + 1) ρ M (by omega) bo h
  exact key _ 0 ρ M rfl (Nat.zero_le _) h0
end
section
variable {X : Cx} {Γ : Gz} {β : Bz}
noncomputable def zBlock (tn : Nat) (idx : List Nat) (ρ : aP) : aP := List.replicate tn none ++ idx.map fun i => (ρ[i]?).join
theorem Zr.block {M : Mh} {ρ : aP} {σ : St} {H : Hp} (z : Zr Γ β M ρ σ H) (tn : Nat) (idx : List Nat) : Zr Γ β M (zBlock tn idx ρ) (bL tn idx σ) H := ⟨z.eP, z.ew, z.eK, z.et, z.sub, z.wf, z.ent, z.mz, by simp [zBlock, bL], fun i d e => by
  unfold zBlock at e
  unfold bL
  rw [List.getElem?_append] at e ⊢
  rw [List.length_replicate] at e ⊢
  split at e
  · rw [List.getElem?_replicate] at e
    split at e <;> cases e
  · rename_i hi
    rw [if_neg hi]
    rw [List.getElem?_map] at e ⊢
    cases q : idx[i - tn]? with
    | none => rw [q] at e; cases e
    | some j =>
      rw [q] at e
      have e2 : ρ[j]? = some (some d) := by
        simp only [Option.map_some, Option.some.injEq] at e
        cases q2 : ρ[j]? with
        | none => rw [q2] at e; cases e
        | some o => rw [q2] at e; simp only [Option.join_some] at e; rw [e]
      obtain ⟨v, hv, r⟩ := z.at' j d e2
      exact ⟨v, by simp [hv], r⟩⟩
theorem Zr.enter {M : Mh} {ρ : aP} {σ : St} {H : Hp} {D : Addr} {o : HO} (z : Zr Γ β M ρ σ H) (hD : H D = none) (ho : mI o = true) : Zr Γ (β.add D) M ρ σ (upd H D o) :=
  ⟨z.eP, z.ew, z.eK, z.et, fun a h => List.mem_cons_of_mem _ (z.sub a h), z.wf, z.ent.over (z.ent.gone hD (by
    cases e : Γ.M0 D with
    | none => rfl
    | some u => have := z.ent.dom D (by rw [e]; rfl); rw [z.mz.free hD] at this; cases this)), z.mz.enter hD ho, z.len, fun i d e => let ⟨v, h, r⟩ := z.at' i d e; ⟨v, h, r.enter hD⟩⟩
theorem Zr.over {M : Mh} {ρ : aP} {σ : St} {H : Hp} {D : Addr} {o : HO} (z : Zr Γ β M ρ σ H) (hD : D ∈ β.hid) (ho : mI o = true) (hM : M D = none) (ht : D ∉ β.tb) (h0 : Γ.H0 D = none) : Zr Γ β M ρ σ (upd H D o) :=
  ⟨z.eP, z.ew, z.eK, z.et, z.sub, z.wf, z.ent.over h0, z.mz.over hD ho hM ht, z.len, fun i d e => let ⟨v, h, r⟩ := z.at' i d e; ⟨v, h, r.over hD⟩⟩
noncomputable abbrev z5 (Γ : Gz) (X : Cx) (ifs : List Expr) (t : dG) : Prop := hV X ifs (lT Γ t)
noncomputable def zNoIf : dG := fun _ M Q => Q true M
theorem e8 : z5 Γ X [] zNoIf := qb.imp fun σ H Q ⟨β, ρ, M, Q', zr, h, q⟩ => q true M H (.refl zr.mz) h
noncomputable def zMap (g : dP) (tt : dG) (te : aT) : List Dv → aP → Mh → (List Dv → Mh → Prop) → Prop
  | [], _, M, Q => Q [] M
  | d :: ds, τ, M, Q => g d τ M fun aI M2 => tt aI M2 fun b M3 => if b = true then te aI M3 fun y M4 => zMap g tt te ds aI M4 fun ys M5 => Q (y :: ys) M5 else zMap g tt te ds aI M3 Q
structure Acc (Γ : Gz) (β : Bz) (D : Addr) (M1 : Mh) (H1 : Hp) (cG : aP) (M : Mh) (τ : St) (H : Hp) (acc : List V) (cM : List Dv) : Prop where
  ey : Ey M1 H1 M H
  m : M D = none
  zr : Zr Γ (β.add D) M cG τ H
  at' : H D = some (.lst acc)
  rs : bb (β.add D) M H acc cM
  h1 : H1 D = none
  h0 : Γ.H0 D = none
  nt : D ∉ β.tb
theorem Acc.start {D : Addr} {M1 : Mh} {H1 : Hp} {cG : aP} {τ : St} (zr : Zr Γ β M1 cG τ H1) (hD : H1 D = none) : Acc Γ β D M1 H1 cG M1 τ (upd H1 D (.lst [])) [] [] :=
  ⟨Ey.refl.over hD, zr.mz.free hD, zr.enter hD rfl, aj, .nil, hD, zr.ent.gone hD (by
    cases e : Γ.M0 D with
    | none => rfl
    | some u => have := zr.ent.dom D (by rw [e]; rfl); rw [zr.mz.free hD] at this; cases this), zr.mz.Cj hD⟩
section
variable {D : Addr} {M1 M M2 : Mh} {H1 H H2 : Hp} {cG HI : aP} {τ aI : St} {acc : List V} {cM : List Dv}
theorem Acc.step (A : Acc Γ β D M1 H1 cG M τ H acc cM) (x : Ex (β.add D) M H M2 H2) (z : Zr Γ (β.add D) M2 HI aI H2) : Acc Γ β D M1 H1 HI M2 aI H2 acc cM :=
  ⟨A.ey.trans x.toEy, x.new D _ A.m A.at', z, x.get A.m A.at' rfl, A.rs.ex x, A.h1, A.h0, A.nt⟩
theorem Acc.snoc (A : Acc Γ β D M1 H1 cG M τ H acc cM) {y : V} {d : Dv} (r : Rz (β.add D) M H y d) : Acc Γ β D M1 H1 cG M τ (upd H D (.lst (acc ++ [y]))) (acc ++ [y]) (cM ++ [d]) := by
  have hD : D ∈ (β.add D).hid := List.mem_cons_self
  exact ⟨A.ey.over A.h1, A.m, A.zr.over hD rfl A.m A.nt A.h0, aj, ⟨by simp [A.rs.len], fun i v d a b => ((A.rs.snoc r).at' i v d a b).over hD⟩, A.h1, A.h0, A.nt⟩
theorem Acc.fz (A : Acc Γ β D M1 H1 cG M τ H acc cM) (m1 : Mz β M1 H1) : Fz β M D := ⟨A.m, (m1.fz A.h1).2⟩
theorem Acc.mz (A : Acc Γ β D M1 H1 cG M τ H acc cM) : Mz β M H := Mz.sub (β := β.add D) (cL := β) rfl rfl rfl rfl (fun a h => List.mem_cons_of_mem _ h) A.zr.mz
theorem Acc.items (A : Acc Γ β D M1 H1 cG M τ H acc cM) : bb β M H acc cM := ⟨A.rs.len, fun i v d a b => Rz.sub (β := β.add D) (cL := β) rfl rfl rfl (fun a h => List.mem_cons_of_mem _ h) (A.rs.at' i v d a b)⟩
theorem Acc.ex (A : Acc Γ β D M1 H1 cG M τ H acc cM) : Ex β M1 H1 M H := ⟨A.ey, A.mz⟩
end
noncomputable def zComp (tn : Nat) (idx : List Nat) (zi : gL) (g : dP) (tt : dG) (te : aT) : aT := fun ρ M Q => zi ρ M fun ds M1 => ds.length < sizeLine ∧ zMap g tt te ds (zBlock tn idx ρ) M1 fun ys M2 => Q (.lst ys) M2
noncomputable def zTupG (tn : Nat) (idx : List Nat) (zi : gL) (g : dP) (tt : dG) (te : aT) : aT := fun ρ M Q => zi ρ M fun ds M1 => ds.length < sizeLine ∧ zMap g tt te ds (zBlock tn idx ρ) M1 fun ys M2 => Q (.tup ys) M2
variable {zi : gL} {g : dP} {tt : dG} {te : aT} {tn : Nat} {idx : List Nat}
noncomputable def mO (Γ : Gz) (β : Bz) (D : Addr) (M1 : Mh) (H1 : Hp) (g : dP) (tt : dG) (te : aT) (ds : List Dv) (Q' : List Dv → Mh → Prop) (i m : Nat) (τ : St) (H : Hp) : Prop :=
  m = ds.length - i ∧ i ≤ ds.length ∧ ∃ cG M acc cM, Acc Γ β D M1 H1 cG M τ H acc cM ∧ acc.length ≤ i ∧ zMap g tt te (ds.drop i) cG M fun ys M2 => Q' (cM ++ ys) M2
theorem rq {D : Addr} {M1 : Mh} {H1 : Hp} {ds : List Dv} {Q' : List Dv → Mh → Prop} {J : It} (it : DN β J ds M1 H1) (hlen : ds.length < sizeLine) {i m : Nat} {τ : St} {H : Hp} (w : mO Γ β D M1 H1 g tt te ds Q' i m τ H)
    {C : V → St → Hp → Prop} (hC : ∀ y aI H4 acc, H4 D = some (.lst acc) → acc.length < sizeLine → (∃ m', m' < m ∧ mO Γ β D M1 H1 g tt te ds Q' (i + 1) m' aI (upd H4 D (.lst (acc ++ [y])))) → C y aI H4) :
    (J.stop i H ∧ ∃ cG M acc cM, Acc Γ β D M1 H1 cG M τ H acc cM ∧ acc.length < sizeLine ∧ Q' cM M) ∨
    (J.go i H ∧ ∀ x H', J.yld i H x H' → lG Γ g x τ H' fun aI H2 => lT Γ tt aI H2 fun b H3 => if b = true then lE Γ te aI H3 fun y H4 => C y aI H4 else ∃ m', m' < m ∧ mO Γ β D M1 H1 g tt te ds Q' (i + 1) m' aI H3) := by
  obtain ⟨rfl, hi, cG, M, acc, cM, A, js, h⟩ := w
  have q := it (β.add D) M H (.add A.h1) A.ey A.zr.mz i
  by_cases bo : i < ds.length
  · refine .inr ⟨(q.1 bo).1, fun x H' y => ?_⟩
    obtain ⟨x2, d, hd, rd⟩ := (q.1 bo).2 x H' y
    have e : ds.drop i = d :: ds.drop (i + 1) := by
      rw [List.drop_eq_getElem_cons bo]
      rw [List.getElem?_eq_getElem bo] at hd
      cases hd
      rfl
    rw [e] at h
    have A2 := A.step x2 (A.zr.step x2)
    refine ⟨β.add D, d, cG, M, _, A2.zr, rd, h, fun fZ M3 ug H3 x3 z3 h3 => ?_⟩
    have A3 := A2.step x3 z3
    refine ⟨β.add D, fZ, M3, _, z3, h3, fun b M4 H4 x4 h4 => ?_⟩
    have A4 := A3.step x4 (z3.step x4)
    cases b with
    | false =>
      dsimp only at h4 ⊢
      rw [if_neg Bool.false_ne_true] at h4 ⊢
      exact ⟨ds.length - (i + 1), by omega, rfl, bo, fZ, M4, acc, cM, A4, by omega, h4⟩
    | true =>
      dsimp only at h4 ⊢
      rw [if_pos rfl] at h4 ⊢
      refine ⟨β.add D, fZ, M4, _, A4.zr, h4, fun yd M5 yv H5 x5 r5 h5 => ?_⟩
      have A5 := A4.step x5 (A4.zr.step x5)
      refine hC yv ug H5 acc A5.at' (by omega) ⟨ds.length - (i + 1), by omega, rfl, bo, fZ, M5, acc ++ [yv], cM ++ [yd], A5.snoc r5, by simp; omega, ?_⟩
      have e2 : (fun ys M2 => Q' (cM ++ [yd] ++ ys) M2) = fun ys M2 => Q' (cM ++ yd :: ys) M2 := by
        funext ys M2
        rw [List.append_assoc]
        rfl
      rw [e2]
      exact h5
  · have e : i = ds.length := by omega
    subst e
    rw [List.drop_length] at h
    refine .inl ⟨q.2 (Nat.le_refl _), cG, M, acc, cM, A, by omega, ?_⟩
    have h' : Q' (cM ++ []) M := h
    rwa [List.append_nil] at h'
theorem pB {D : Addr} {M1 : Mh} {H1 : Hp} {ds : List Dv} {Q' : List Dv → Mh → Prop} {cG : aP} {τ : St} (zr : Zr Γ β M1 cG τ H1) (hD : H1 D = none) (h : zMap g tt te ds cG M1 Q') : mO Γ β D M1 H1 g tt te ds Q' 0 ds.length τ (upd H1 D (.lst [])) :=
  ⟨rfl, Nat.zero_le _, cG, M1, [], [], .start zr hD, Nat.le_refl _, h⟩
theorem HJ {σ : St} {H : Hp} {Q : VK} (h : lE Γ (zComp tn idx zi g tt te) σ H Q) : xh tn idx (lI Γ zi) (lG Γ g) (lT Γ tt) (lE Γ te) σ H Q := by
  obtain ⟨β, ρ, M, Q', zr, h, q⟩ := h
  refine ⟨β, ρ, M, _, zr, h, fun ds M1 H1 J x1 it ⟨hlen, h1⟩ D hD => ?_⟩
  have jx := zr.step x1
  refine ⟨mO Γ β D M1 H1 g tt te ds fun ys M2 => Q' (.lst ys) M2, ⟨_, pB (jx.block tn idx) hD h1⟩, fun i m τ H' w => ?_⟩
  rcases rq it hlen w (C := fun y aI H4 => ∃ ys m', H4 D = some (.lst ys) ∧ ys.length < sizeLine ∧ m' < m ∧ mO Γ β D M1 H1 g tt te ds (fun ys M2 => Q' (.lst ys) M2) (i + 1) m' aI (upd H4 D (.lst (ys ++ [y])))) (fun y aI H4 acc e hl ⟨m', hm, w'⟩ => ⟨acc, m', e, hl, hm, w'⟩) with ⟨hs, cG, M', acc, cM, A, _, hq⟩ | z
  · exact .inl ⟨hs, q _ _ _ _ (x1.trans A.ex) (ki (A.fz jx.mz) A.at' A.items) hq⟩
  · exact .inr z
theorem HK {P : Addr} {zi : gL} {R : It → Hp → Prop} {σ : St} {H : Hp} {ρ : aP} {M : Mh} {R' : List Dv → Mh → Prop} (hP : P ∈ Γ.tb) (zr : Zr Γ β M ρ σ H) (h : zi ρ M R') (q : ∀ ds M' H' J, Ex β M H M' H' → DN β J ds M' H' → R' ds M' → R J H') : Dx P (lI Γ zi) R σ H := by
  refine ⟨β, ρ, M, _, zr, h, fun ds M1 H1 J x1 it h1 => ?_⟩
  have Dw : P ∈ β.tb := by rw [zr.et]; exact hP
  refine ⟨x1.mz.tabs P Dw, fun ps t => ?_⟩
  have x2 := Ex.grow x1.mz Dw t
  refine q ds M1 _ J (x1.trans x2) (fun cL M' H' bx ey mz => it cL M' H' ⟨bx.P, bx.w, bx.K, bx.tb, bx.old, fun a ha => ?_⟩ (x2.toEy.trans ey) mz) h1
  rcases bx.new a ha with z | z
  · exact .inl z
  · right
    cases e : H1 a with
    | none => rfl
    | some o => obtain ⟨u, hu⟩ := Ci (p := P) (o := .cf ps) ⟨o, e⟩; rw [z] at hu; cases hu
theorem HL {P : Addr} (hP : P ∈ Γ.tb) {σ : St} {H : Hp} {Q : VK} (h : lE Γ (zTupG tn idx zi g tt te) σ H Q) : DB P tn idx (lI Γ zi) (lG Γ g) (lT Γ tt) (lE Γ te) σ H Q := by
  obtain ⟨β, ρ, M, Q', zr, h, q⟩ := h
  refine HK hP zr h fun ds M1 H1 J x1 it ⟨hlen, h1⟩ D hD => ?_
  have jx := zr.step x1
  refine ⟨mO Γ β D M1 H1 g tt te ds fun ys M2 => Q' (.tup ys) M2, ⟨_, pB (jx.block tn idx) hD h1⟩, fun i m τ H' w => ?_⟩
  rcases rq it hlen w (C := fun y aI H4 => takeIn D y H4 fun H5 => ∃ m', m' < m ∧ mO Γ β D M1 H1 g tt te ds (fun ys M2 => Q' (.tup ys) M2) (i + 1) m' aI H5) (fun y aI H4 acc e hl hw => ⟨acc, e, hl, hw⟩) with ⟨hs, cG, M', acc, cM, A, _, hq⟩ | z
  · refine .inl ⟨hs, acc, A.at', fun l hl => ?_⟩
    have x2 := Ex.lay A.mz hl (.tup acc)
    exact q _ _ _ _ (x1.trans (A.ex.trans x2)) (fH (A.mz.fz hl) aj (A.items.ex x2)) hq
  · exact .inr z
noncomputable def jS (g : dP) (tt : dG) (te : aT) : List Dv → aP → Mh → (Bool → Mh → Prop) → Prop
  | [], _, M, Q => Q true M
  | d :: ds, τ, M, Q => g d τ M fun aI M2 => tt aI M2 fun b M3 => if b = true then te aI M3 (zBool fun c M4 => if c = false then Q false M4 else jS g tt te ds aI M4 Q) else jS g tt te ds aI M3 Q
noncomputable def zAll (tn : Nat) (idx : List Nat) (zi : gL) (g : dP) (tt : dG) (te : aT) : aT := fun ρ M Q => zi ρ M fun ds M1 => jS g tt te ds (zBlock tn idx ρ) M1 fun b M2 => Q (.bl b) M2
theorem JN {P : Addr} (hP : P ∈ Γ.tb) {σ : St} {H : Hp} {Q : VK} (h : lE Γ (zAll tn idx zi g tt te) σ H Q) : GQ P tn idx (lI Γ zi) (lG Γ g) (lT Γ tt) (lE Γ te) σ H Q := by
  obtain ⟨β, ρ, M, Q', zr, h, q⟩ := h
  refine HK hP zr h fun ds M1 H1 J x1 it h1 => ?_
  have jx := zr.step x1
  refine ⟨fun i m τ H' => m = ds.length - i ∧ i ≤ ds.length ∧ ∃ cG M', Ex β M1 H1 M' H' ∧ Zr Γ β M' cG τ H' ∧ jS g tt te (ds.drop i) cG M' fun b M2 => Q' (.bl b) M2, ⟨_, rfl, Nat.zero_le _, _, M1, .refl x1.mz, jx.block tn idx, h1⟩, ?_⟩
  rintro i m τ H' ⟨rfl, hi, cG, M', x', gC, h'⟩
  have qq := it β M' H' .refl x'.toEy x'.mz i
  by_cases bo : i < ds.length
  · refine .inr ⟨(qq.1 bo).1, fun x mL y => ?_⟩
    obtain ⟨x2, d, hd, rd⟩ := (qq.1 bo).2 x mL y
    have e : ds.drop i = d :: ds.drop (i + 1) := by
      rw [List.drop_eq_getElem_cons bo]
      rw [List.getElem?_eq_getElem bo] at hd
      cases hd
      rfl
    rw [e] at h'
    refine ⟨β, d, cG, M', _, gC.step x2, rd, h', fun fZ M3 ug H3 x3 z3 h3 => ⟨β, fZ, M3, _, z3, h3, fun b M4 H4 x4 h4 => ?_⟩⟩
    have rA := x'.trans (x2.trans (x3.trans x4))
    cases b with
    | false =>
      dsimp only at h4 ⊢
      rw [if_neg Bool.false_ne_true] at h4 ⊢
      exact ⟨ds.length - (i + 1), by omega, rfl, bo, fZ, M4, rA, z3.step x4, h4⟩
    | true =>
      dsimp only at h4 ⊢
      rw [if_pos rfl] at h4 ⊢
      refine ⟨β, fZ, M4, _, z3.step x4, h4, fun yd M5 yv H5 x5 r5 h5 => ?_⟩
      obtain ⟨k, rfl, h6⟩ := jw h5
      refine ⟨k, c7 r5, ?_⟩
      cases k with
      | false =>
        rw [if_pos rfl] at h6 ⊢
        exact q _ _ _ _ (x1.trans (rA.trans x5)) (.bl _) h6
      | true =>
        rw [if_neg (by decide)] at h6 ⊢
        exact ⟨ds.length - (i + 1), by omega, rfl, bo, fZ, M5, rA.trans x5, (z3.step x4).step x5, h6⟩
  · have e : i = ds.length := by omega
    subst e
    rw [List.drop_length] at h'
    exact .inl ⟨qq.2 (Nat.le_refl _), q _ _ _ _ (x1.trans x') (.bl _) h'⟩
end
section
variable {X : Cx} {Γ : Gz} {β : Bz} {K : PySem.W.Frag}
noncomputable def zII (f : Int → Int → Dv) : dB := fun d e M Q => match d, e with | .int i, .int j => Q (f i j) M | _, _ => False
noncomputable def zIC (C : Int → Int → Prop) (f : Int → Int → Dv) : dB := fun d e M Q => match d, e with | .int i, .int j => C i j ∧ Q (f i j) M | _, _ => False
theorem mP {g : Int → Int → V} {f : Int → Int → Dv} (h : ∀ β M H i j, Rz β M H (g i j) (f i j)) : pq Γ (oM g) (zII f) := fun β x y d e M H Q Q' _ _ _ m rx ry z q => by
  unfold zII at z
  split at z
  · exact ⟨_, _, aG rx, aG ry, q _ _ _ _ (.refl m) (h ..) z⟩
  · exact z.elim
theorem HM {C : Int → Int → Prop} {g : Int → Int → V} {f : Int → Int → Dv} (h : ∀ β M H i j, Rz β M H (g i j) (f i j)) : pq Γ (rI C g) (zIC C f) := fun β x y d e M H Q Q' _ _ _ m rx ry z q => by
  unfold zIC at z
  split at z
  · exact ⟨_, _, aG rx, aG ry, z.1, q _ _ _ _ (.refl m) (h ..) z.2⟩
  · exact z.elim
theorem JO : eG Γ X (binaryOp .Add) (zII fun i j => .int (i + j)) := ⟨_, eO, mP fun _ _ _ _ _ => .int _⟩
theorem JP : eG Γ X (binaryOp .Sub) (zII fun i j => .int (i - j)) := ⟨_, oN, mP fun _ _ _ _ _ => .int _⟩
theorem JQ : eG Γ X (binaryOp .Pow) (zIC Bq fun i j => .int (i ^ j.toNat)) := ⟨_, yL, HM fun _ _ _ _ _ => .int _⟩
theorem M6 : eG Γ X (compareOp .Lt) (zII fun i j => .bl (decide (i < j))) := ⟨_, su, mP fun _ _ _ _ _ => .bl _⟩
theorem Cq : eG Γ X (compareOp .LtE) (zII fun i j => .bl (decide (i ≤ j))) := ⟨_, Js, mP fun _ _ _ _ _ => .bl _⟩
theorem M7 : eG Γ X (compareOp .Gt) (zII fun i j => .bl (decide (j < i))) := ⟨_, wV, mP fun _ _ _ _ _ => .bl _⟩
noncomputable def scalZ (d e : Dv) : Option Bool := match d with
  | .int i => (match e with | .int j => some (decide (i = j)) | .aq => some false | .str _ => some false | _ => none)
  | .bl i => (match e with | .bl j => some (decide (i = j)) | .aq => some false | .str _ => some false | _ => none)
  | .str i => (match e with | .str j => some (decide (i = j)) | .aq => some false | .int _ => some false | .bl _ => some false | _ => none)
  | .aq => (match e with | .aq => some true | .int _ => some false | .bl _ => some false | .str _ => some false | _ => none)
  | _ => none
noncomputable def zEq : dB := fun d e M Q => match scalZ d e with | some b => Q (.bl b) M | none => False
noncomputable def zNe : dB := fun d e M Q => match scalZ d e with | some b => Q (.bl (!b)) M | none => False
theorem uh {M : Mh} {H : Hp} {x y : V} {d e : Dv} {b : Bool} (rx : Rz β M H x d) (ry : Rz β M H y e) (h : scalZ d e = some b) : Bs x y = true ∧ decide (x = y) = b := by
  unfold scalZ at h
  split at h
  · rw [aG rx]
    split at h <;> cases h
    · rw [aG ry]; exact ⟨rfl, by simp⟩
    · rw [ig ry]; exact ⟨rfl, by simp⟩
    · rw [bB ry]; exact ⟨rfl, by simp⟩
  · rw [c7 rx]
    split at h <;> cases h
    · rw [c7 ry]; exact ⟨rfl, by simp⟩
    · rw [ig ry]; exact ⟨rfl, by simp⟩
    · rw [bB ry]; exact ⟨rfl, by simp⟩
  · rw [bB rx]
    split at h <;> cases h
    · rw [bB ry]; exact ⟨rfl, by simp⟩
    · rw [ig ry]; exact ⟨rfl, by simp⟩
    · rw [aG ry]; exact ⟨rfl, by simp⟩
    · rw [c7 ry]; exact ⟨rfl, by simp⟩
  · rw [ig rx]
    split at h <;> cases h
    · rw [ig ry]; exact ⟨rfl, by simp⟩
    · rw [aG ry]; exact ⟨rfl, by simp⟩
    · rw [c7 ry]; exact ⟨rfl, by simp⟩
    · rw [bB ry]; exact ⟨rfl, by simp⟩
  · cases h
theorem uk : eG Γ X (compareOp .Eq) zEq := ⟨_, oO, fun β x y d e M H Q Q' _ _ _ m rx ry z q => by
  unfold zEq at z
  split at z
  · rename_i b hb
    obtain ⟨h1, h2⟩ := uh rx ry hb
    exact ⟨h1, by rw [h2]; exact q _ _ _ _ (.refl m) (.bl _) z⟩
  · exact z.elim⟩
theorem Cr : eG Γ X (compareOp .NotEq) zNe := ⟨_, Jr, fun β x y d e M H Q Q' _ _ _ m rx ry z q => by
  unfold zNe at z
  split at z
  · rename_i b hb
    obtain ⟨h1, h2⟩ := uh rx ry hb
    exact ⟨h1, by rw [h2]; exact q _ _ _ _ (.refl m) (.bl _) z⟩
  · exact z.elim⟩
noncomputable def isNonD : Dv → Option Bool
  | .aq => some true
  | .raw _ => none
  | _ => some false
noncomputable def zIsN (neg : Bool) : dB := fun d e M Q => match e, isNonD d with | .aq, some b => Q (.bl (if neg then !b else b)) M | _, _ => False
noncomputable def zSS (C : Str → Str → Prop) (f : Str → Str → Dv) : dB := fun d e M Q => match d, e with | .str i, .str j => C i j ∧ Q (f i j) M | _, _ => False
theorem jT : eG Γ X (binaryOp .Add) (zSS (fun i j => i.length + j.length ≤ sizeLine) fun i j => .str (i ++ j)) := ⟨_, wY, fun β x y d e M H Q Q' _ _ _ m rx ry z q => by
  unfold zSS at z
  split at z
  · exact ⟨_, _, bB rx, bB ry, z.1, q _ _ _ _ (.refl m) (.str _) z.2⟩
  · exact z.elim⟩
noncomputable def sD (i j : Str) : Bool := !(Builtin.Str.occurrences j i 0 j.length 1).isEmpty
theorem Ct : eG Γ X (compareOp .In) (zSS (fun _ _ => True) fun i j => .bl (sD i j)) := ⟨_, yN, fun β x y d e M H Q Q' _ _ _ m rx ry z q => by
  unfold zSS at z
  split at z
  · exact ⟨_, _, bB rx, bB ry, q _ _ _ _ (.refl m) (.bl _) z.2⟩
  · exact z.elim⟩
mutual
noncomputable def cx : Dv → Option Dt
  | .int i => some (.int i)
  | .bl b => some (.bl b)
  | .aq => some .aq
  | .str z => some (.str z)
  | .tup ds => (jU ds).map .tup
  | .lst ds => (jU ds).map .lst
  | _ => none
noncomputable def jU : List Dv → Option (List Dt)
  | [] => some []
  | d :: ds => match cx d, jU ds with | some a, some as => some (a :: as) | _, _ => none
end
theorem k6 : ∀ {ds : List Dv} {ts : List Dt}, jU ds = some ts → ds.length = ts.length ∧ ∀ (i : Nat) (d : Dv) (t : Dt), ds[i]? = some d → ts[i]? = some t → cx d = some t
  | [], ts, h => by simp only [jU, Option.some.injEq] at h; subst h; exact ⟨rfl, fun i d t a => by simp at a⟩
  | d :: ds, ts, h => by
    simp only [jU] at h
    split at h
    · rename_i a as h1 h2
      cases h
      obtain ⟨hl, q⟩ := k6 h2
      refine ⟨by simp [hl], fun i e t x y => ?_⟩
      cases i with
      | zero => simp at x y; subst x y; exact h1
      | succ i => rw [List.getElem?_cons_succ] at x y; exact q i e t x y
    · cases h
theorem z6 {M : Mh} {H : Hp} {v : V} {d : Dv} (h : Rz β M H v d) : ∀ {t : Dt}, cx d = some t → d9 H v t := by
  induction h with
  | int i => intro t e; simp only [cx, Option.some.injEq] at e; subst e; exact .int i
  | bl b => intro t e; simp only [cx, Option.some.injEq] at e; subst e; exact .bl b
  | aq => intro t e; simp only [cx, Option.some.injEq] at e; subst e; exact .aq
  | str z => intro t e; simp only [cx, Option.some.injEq] at e; subst e; exact .str z
  | tup m e hl h ih =>
    intro t q
    simp only [cx, Option.map_eq_some_iff] at q
    obtain ⟨ts, q, rfl⟩ := q
    obtain ⟨l2, at2⟩ := k6 q
    refine .tup e (hl.trans l2) fun i x d hx hd => ?_
    have hi := (List.getElem?_eq_some_iff.mp hd).1
    have := List.getElem?_eq_getElem (l := _) (i := i) (show i < _ from l2 ▸ hi)
    exact ih i x _ hx this (at2 i _ _ this hd)
  | lst m e hl h ih =>
    intro t q
    simp only [cx, Option.map_eq_some_iff] at q
    obtain ⟨ts, q, rfl⟩ := q
    obtain ⟨l2, at2⟩ := k6 q
    refine .lst e (hl.trans l2) fun i x d hx hd => ?_
    have hi := (List.getElem?_eq_some_iff.mp hd).1
    have := List.getElem?_eq_getElem (l := _) (i := i) (show i < _ from l2 ▸ hi)
    exact ih i x _ hx this (at2 i _ _ this hd)
  | set m e => intro t q; simp [cx] at q
  | ptr m => intro t q; simp [cx] at q
  | exc m e => intro t q; simp [cx] at q
  | bO m e => intro t q; simp [cx] at q
  | b7 m e => intro t q; simp [cx] at q
  | b8 e => intro t q; simp [cx] at q
  | dk m e hk hl h ih => intro t q; simp [cx] at q
  | dt m e hk hl h ih => intro t q; simp [cx] at q
  | cK m e m2 e2 hl h ih => intro t q; simp [cx] at q
  | raw v => intro t q; simp [cx] at q
noncomputable def now (M : Mh) : Dv → Dv
  | .ptr a => match M a with | some (.lst ds) => .lst ds | _ => .ptr a
  | d => d
theorem wt {M : Mh} {H : Hp} {v : V} {d : Dv} (m : Mz β M H) (h : Rz β M H v d) {t : Dt} (e : cx (now M d) = some t) : d9 H v t := by
  cases d with
  | ptr a =>
    simp only [now] at e
    obtain ⟨rfl, hs⟩ := cX h
    cases q : M a with
    | none => rw [q] at hs; cases hs
    | some o =>
      rw [q] at e
      cases o with
      | bag => simp [cx] at e
      | dk ks es => simp [cx] at e
      | dt ks es => simp [cx] at e
      | lst ds =>
        obtain ⟨vs, hv, rs⟩ := m.obj a _ q
        simp only [cx, Option.map_eq_some_iff] at e
        obtain ⟨ts, q, rfl⟩ := e
        obtain ⟨l2, at2⟩ := k6 q
        refine .lst hv (rs.len.trans l2) fun i x d hx hd => ?_
        have hi := (List.getElem?_eq_some_iff.mp hd).1
        have := List.getElem?_eq_getElem (l := _) (i := i) (show i < _ from l2 ▸ hi)
        exact z6 (rs.at' i x _ hx this) (at2 i _ _ this hd)
  | _ => exact z6 h e
noncomputable def oq (neg : Bool) : dB := fun d e M Q => match cx (now M d), cx (now M e) with | some a, some b => iE a ≤ 60 ∧ Q (.bl (if neg then !di a b else di a b)) M | _, _ => False
theorem wu {neg : Bool} : pq Γ (B4 neg) (oq neg) := fun β x y d e M H Q Q' _ _ _ m rx ry z q => by
  unfold oq at z
  split at z
  · rename_i a b h1 h2
    exact ⟨a, b, wt m rx h1, wt m ry h2, z.1, q _ _ _ _ (.refl m) (.bl _) z.2⟩
  · exact z.elim
theorem JR (hu : X.A.units + 64 < cLine) : eG Γ X (compareOp .Eq) (oq false) := ⟨_, Hk hu, wu⟩
theorem DR (hu : X.A.units + 64 < cLine) : eG Γ X (compareOp .NotEq) (oq true) := ⟨_, Hl hu, wu⟩
noncomputable def itemsM (M : Mh) : Dv → Option (List Dv)
  | .tup ds => some ds
  | .lst ds => some ds
  | .ptr a => match M a with | some (.lst ds) => some ds | _ => none
  | _ => none
theorem jy {M : Mh} {H : Hp} {x : V} {d : Dv} {ds : List Dv} (m : Mz β M H) (r : Rz β M H x d) (h : itemsM M d = some ds) : ∃ a vs, x = .ref a ∧ (H a = some (.lst vs) ∨ H a = some (.tup vs)) ∧ bb β M H vs ds := by
  cases d with
  | tup es => cases h; obtain ⟨a, vs, e, _, h, rs⟩ := cV r; exact ⟨a, vs, e, .inr h, rs⟩
  | lst es => cases h; obtain ⟨a, vs, e, _, h, rs⟩ := ie r; exact ⟨a, vs, e, .inl h, rs⟩
  | ptr a =>
    obtain ⟨rfl, hs⟩ := cX r
    simp only [itemsM] at h
    split at h
    · rename_i es q
      cases h
      obtain ⟨vs, hv, rs⟩ := m.obj a _ q
      exact ⟨a, vs, rfl, .inl hv, rs⟩
    · cases h
  | _ => cases h
theorem EX {M : Mh} {H : Hp} {vs : List V} {ds : List Dv} (rs : bb β M H vs ds) {i : Int} {d : Dv} (h : dO ds i = some d) : ∃ v, dO vs i = some v ∧ Rz β M H v d := by
  unfold dO at h ⊢
  rw [rs.len]
  cases e : iC ds.length i with
  | none => rw [e] at h; cases h
  | some j =>
    rw [e] at h
    obtain ⟨v, hv, r⟩ := rs.get (i := j) (d := d) h
    exact ⟨v, hv, r⟩
noncomputable def Lc (Γ : Gz) (X : Cx) (z : dB) : Prop := ∃ r, lD X r ∧ pq Γ r z
noncomputable def zIx : dB := fun d e M Q => match e with
  | .int i => (match d with
    | .str z => z.length ≤ sizeLine ∧ (match dO z.cps.toList i with | some c => Q (.str ⟨#[c]⟩) M | none => False)
    | _ => match itemsM M d with | some ds => (match dO ds i with | some r => Q r M | none => False) | none => False)
  | _ => False
theorem iw (hK : X.K = K) : Lc Γ X zIx := ⟨_, Es hK, fun β x y d e M H Q Q' _ _ _ m rx ry z q => by
  unfold zIx at z
  split at z
  · rename_i i
    have hy := aG ry
    split at z
    · rename_i s
      obtain ⟨hz, z⟩ := z
      split at z
      · rename_i c hc
        exact .inr (.inr ⟨s, i, c, bB rx, hy, hz, hc, q _ _ _ _ (.refl m) (.str _) z⟩)
      · exact z.elim
    · split at z
      · rename_i ds rB
        obtain ⟨a, vs, rfl, ha, rs⟩ := jy m rx rB
        split at z
        · rename_i r hr
          obtain ⟨v, hv, rv⟩ := EX rs hr
          have z' := q _ _ _ _ (.refl m) rv z
          rcases ha with ha | ha
          · exact .inl ⟨a, vs, i, v, rfl, hy, a8.of ha, hv, z'⟩
          · exact .inr (.inl ⟨a, vs, i, v, rfl, hy, cB.of ha, hv, z'⟩)
        · exact z.elim
      · exact z.elim
  · exact z.elim⟩
theorem fP {a b : Expr} {pa pb : aT} {z : dB} {pos : Pos} (hr : Lc Γ X z) (ha : QE Γ X a pa) (hb : QE Γ X b pb) (hs : vX b) : QE Γ X (.Subscript a b pos) (zOp z pa pb) := by
  obtain ⟨r, h1, h2⟩ := hr
  exact (dg h1 ha hb hs).imp fun σ H Q h => xN h2 h
noncomputable def cutD (xs : List Dv) (lo hi : Option Int) : List Dv := (xs.drop (HT.gI xs.length 0 lo)).take (HT.gI xs.length xs.length hi - HT.gI xs.length 0 lo)
noncomputable abbrev z7 := aP → Mh → (Option Int → Mh → Prop) → Prop
noncomputable def lO (Γ : Gz) (p : z7) : TO := fun σ H Q => ∃ (β : Bz) (ρ : aP) (M : Mh) (Q' : Option Int → Mh → Prop), Zr Γ β M ρ σ H ∧ p ρ M Q' ∧ ∀ o M' H', Ex β M H M' H' → Q' o M' → Q o H'
noncomputable def zoNone : z7 := fun _ M Q => Q none M
noncomputable def zoSome (p : aT) : z7 := fun ρ M Q => p ρ M fun d M1 => match d with | .int i => Q (some i) M1 | _ => False
theorem PO.imp {e : Option Expr} {t t' : TO} (h : PO X e t) (i : ∀ σ H Q, t' σ H Q → t σ H Q) : PO X e t' := fun pins s σ H Q I q => h pins s σ H Q I (i _ _ _ q)
theorem EY : PO X none (lO Γ zoNone) := PO.imp El fun σ H Q ⟨β, ρ, M, Q', zr, h, q⟩ => q _ _ _ (.refl zr.mz) h
theorem EZ {e : Expr} {p : aT} (h : QE Γ X e p) : PO X (some e) (lO Γ (zoSome p)) := PO.imp (Em h) fun σ H Q ⟨β, ρ, M, Q', zr, h, q⟩ => ⟨β, ρ, M, _, zr, h, fun d M1 v H1 x1 r1 h1 => by
  revert h1
  split
  · intro h1
    exact ⟨_, aG r1, q _ _ _ x1 h1⟩
  · exact fun z => z.elim⟩
noncomputable abbrev z8 := Dv → Option Int → Option Int → Mh → ZK → Prop
noncomputable def Ld (Γ : Gz) (X : Cx) (z : z8) : Prop := ∃ r, Dq X r ∧ ∀ (β : Bz) x d lo hi M H Q Q', β.P = Γ.P → β.w = Γ.w → β.K = Γ.K → Mz β M H → Rz β M H x d → z d lo hi M Q' → (∀ d' M' v H', Ex β M H M' H' → Rz β M' H' v d' → Q' d' M' → Q v H') → r x lo hi H Q
noncomputable def zSl (z : z8) (p : aT) (l h : z7) : aT := fun ρ M Q => p ρ M fun d M1 => l ρ M1 fun lo M2 => h ρ M2 fun hi M3 => z d lo hi M3 Q
theorem Cu {z : z8} {e : Expr} {p : aT} {lo hi : Option Expr} {l h : z7} {p2 pos : Pos} (hr : Ld Γ X z) (he : QE Γ X e p) (hl : PO X lo (lO Γ l)) (hu : PO X hi (lO Γ h)) : QE Γ X (.Subscript e (.Slice lo hi none p2) pos) (zSl z p l h) := by
  obtain ⟨r, h1, h2⟩ := hr
  exact (BA h1 he hl hu).imp fun σ H Q ⟨β, ρ, M, Q', zr, h, q⟩ => ⟨β, ρ, M, _, zr, h, fun d M1 v H1 x1 r1 h1 => ⟨β, ρ, M1, _, zr.step x1, h1, fun o M2 H2 x2 h3 => ⟨β, ρ, M2, _, (zr.step x1).step x2, h3, fun o2 M3 H3 x3 h4 =>
    h2 β v d o o2 M3 H3 _ _ zr.eP zr.ew zr.eK x3.mz ((r1.ex x2).ex x3) h4 fun d' M' v' H' x4 r4 q4 => q _ _ _ _ (x1.trans (x2.trans (x3.trans x4))) r4 q4⟩⟩⟩
noncomputable def zSlT : z8 := fun d lo hi M Q => match d with | .tup ds => Q (.tup (cutD ds lo hi)) M | _ => False
noncomputable def zSlS : z8 := fun d lo hi M Q => match d with | .str s => s.length ≤ sizeLine ∧ Q (.str (Txt.slice s lo hi)) M | _ => False
theorem JS : Ld Γ X zSlS := ⟨_, GY, fun β x d lo hi M H Q Q' _ _ _ m rx z q => by
  unfold zSlS at z
  split at z
  · exact ⟨_, bB rx, z.1, q _ _ _ _ (.refl m) (.str _) z.2⟩
  · exact z.elim⟩
noncomputable def zCatT : dB := fun d e M Q => match d, e with | .tup xs, .tup ys => xs.length + ys.length ≤ sizeLine ∧ Q (.tup (xs ++ ys)) M | _, _ => False
theorem pC (hK : X.K = K) : eG Γ X (binaryOp .Add) zCatT := ⟨_, EI hK, fun β x y d e M H Q Q' _ _ _ m rx ry z q => by
  unfold zCatT at z
  split at z
  · obtain ⟨a, vs, rfl, f, ha, rs⟩ := cV rx
    obtain ⟨b, us, rfl, f2, hb, gM⟩ := cV ry
    refine ⟨a, b, vs, us, rfl, rfl, cB.of ha, cB.of hb, by rw [rs.len, gM.len]; exact z.1, fun e => ?_, fun _ e => ?_, fun _ _ p hp => ?_⟩
    · subst e
      have r3 := rs.append gM
      exact q _ _ _ _ (.refl m) (fH f2 hb r3) z.2
    · subst e
      have r3 := rs.append gM
      rw [List.append_nil] at r3
      exact q _ _ _ _ (.refl m) (fH f ha r3) z.2
    · have x2 := Ex.lay m hp (.tup (vs ++ us))
      exact q _ _ _ _ x2 (fH (m.fz hp) aj ((rs.append gM).ex x2)) z.2
  · exact z.elim⟩
end
section
variable {X : Cx} {Γ : Gz} {β : Bz} {K : PySem.W.Frag}
section
variable {x : Str} {p pos : Pos} {e : Expr} {es : List Expr} {za : gK} {id T : String} {z : px}
theorem aF (hc : eJ Γ X (.builtin id) z) (hg : Gl X x) (hm : X.mg x = none) (hv : bootBuiltins x = some (.builtin id)) (ha : QA Γ X (e :: es) za) (hn : x ≠ "__name__" := by decide) (gj : (x == ("__debug__" : Str)) = false := by decide)
    (he : starEach (e :: es) X.env = (false, eval e X.env) :: starEach es X.env := by rfl) (eQ : (backTo pos (starEach es X.env)).any (·.1) = false := by rfl) : QE Γ X (.Call (.Name x p) (e :: es) [] pos) (zCB z za) := by
  obtain ⟨r, h1, h2⟩ := hc
  exact (eR h1 hg hm hv ha hn gj he eQ).imp fun σ H Q h => HG h2 h
theorem gq (hc : eJ Γ X (.type T) z) (hg : Gl X x) (hm : X.mg x = none) (hv : bootBuiltins x = some (.type T)) (ha : QA Γ X (e :: es) za) (hn : x ≠ "__name__" := by decide) (gj : (x == ("__debug__" : Str)) = false := by decide)
    (he : starEach (e :: es) X.env = (false, eval e X.env) :: starEach es X.env := by rfl) (eQ : (backTo pos (starEach es X.env)).any (·.1) = false := by rfl) : QE Γ X (.Call (.Name x p) (e :: es) [] pos) (zCB z za) := by
  obtain ⟨r, h1, h2⟩ := hc
  exact (jK h1 hg hm hv ha hn gj he eQ).imp fun σ H Q h => HG h2 h
end
noncomputable def z1 (f : Dv → Mh → ZK → Prop) : px := fun ds M Q => match ds with | [d] => f d M Q | _ => False
noncomputable def zLenD (d : Dv) (M : Mh) (Q : ZK) : Prop := match d with
  | .str s => s.length ≤ sizeLine ∧ Q (.int s.length) M
  | .bO ns => Q (.int ns.length) M
  | _ => match itemsM M d with | some ds => Q (.int ds.length) M | none => False
theorem eL (hK : X.K = K) (hG : K = Γ.K) : eJ Γ X (.builtin "len") (z1 zLenD) := ⟨_, zl hK, fun β xs ds M H Q Q' _ _ eK m rs z q => by
  rw [← hG] at eK
  unfold z1 at z
  split at z
  · rename_i d
    obtain ⟨x, rfl, r⟩ := eB rs
    unfold zLenD at z
    split at z
    · rename_i s
      have e := bB r
      subst e
      exact ⟨_, _, rfl, ⟨z.1, rfl⟩, q _ _ _ _ (.refl m) (.int _) z.2⟩
    · rename_i ns
      obtain ⟨a, rfl, h⟩ := rp r
      rw [eK] at h
      exact ⟨_, ns.length, rfl, .inl ⟨_, h, by simp⟩, q _ _ _ _ (.refl m) (.int _) z⟩
    · split at z
      · rename_i ds rB
        obtain ⟨a, vs, rfl, ha, gM⟩ := jy m r rB
        have q' := q _ _ (.int ds.length) _ (.refl m) (.int _) z
        rcases ha with ha | ha
        · exact ⟨_, ds.length, rfl, .inl ⟨vs, a8.of ha, gM.len.symm⟩, q'⟩
        · exact ⟨_, ds.length, rfl, .inr ⟨vs, cB.of ha, gM.len.symm⟩, q'⟩
      · exact z.elim
  · exact z.elim⟩
noncomputable def z2I (f : Int → Int → Int) : px := fun ds M Q => match ds with | [.int i, .int j] => Q (.int (f i j)) M | _ => False
theorem HN (hc : X.calm = true) : eJ Γ X (.builtin "max") (z2I fun i j => if j > i then j else i) := ⟨_, yO hc, fun β xs ds M H Q Q' _ _ _ m rs z q => by
  unfold z2I at z
  split at z
  · obtain ⟨x, y, rfl, r, r'⟩ := eC rs
    rw [aG r, aG r']
    exact ⟨_, _, rfl, q _ _ _ _ (.refl m) (.int _) z⟩
  · exact z.elim⟩
theorem HP (hc : X.calm = true) : eJ Γ X (.builtin "min") (z2I fun i j => if j < i then j else i) := ⟨_, lX hc, fun β xs ds M H Q Q' _ _ _ m rs z q => by
  unfold z2I at z
  split at z
  · obtain ⟨x, y, rfl, r, r'⟩ := eC rs
    rw [aG r, aG r']
    exact ⟨_, _, rfl, q _ _ _ _ (.refl m) (.int _) z⟩
  · exact z.elim⟩
noncomputable def zInt (d : Dv) (M : Mh) (Q : ZK) : Prop := match d with | .int i => Q (.int i) M | .bl k => Q (.int (if k then 1 else 0)) M | _ => False
theorem HQ : eJ Γ X (.type "int") (z1 zInt) := ⟨_, yP, fun β xs ds M H Q Q' _ _ _ m rs z q => by
  unfold z1 at z
  split at z
  · obtain ⟨x, rfl, r⟩ := eB rs
    unfold zInt at z
    split at z
    · rw [aG r]
      exact .inl ⟨_, rfl, q _ _ _ _ (.refl m) (.int _) z⟩
    · rw [c7 r]
      exact .inr ⟨_, rfl, q _ _ _ _ (.refl m) (.int _) z⟩
    · exact z.elim
  · exact z.elim⟩
noncomputable def zList (d : Dv) (M : Mh) (Q : ZK) : Prop := match itemsM M d with | some ds => Q (.lst ds) M | none => False
theorem z9 (hK : X.K = K) : eJ Γ X (.type "list") (z1 zList) := ⟨_, rP hK, fun β xs ds M H Q Q' _ _ _ m rs z q => by
  unfold z1 at z
  split at z
  · obtain ⟨x, rfl, r⟩ := eB rs
    unfold zList at z
    split at z
    · rename_i ds rB
      obtain ⟨a, vs, rfl, ha, gM⟩ := jy m r rB
      refine ⟨a, vs, rfl, ha.imp a8.of cB.of, fun l hl => ?_⟩
      have x2 := Ex.lay m hl (.lst vs)
      exact q _ _ _ _ x2 (ki (m.fz hl) aj (gM.ex x2)) z
    · exact z.elim
  · exact z.elim⟩
noncomputable def zTuple (d : Dv) (M : Mh) (Q : ZK) : Prop := match itemsM M d with | some ds => Q (.tup ds) M | none => False
theorem E1 (hK : X.K = K) : eJ Γ X (.type "tuple") (z1 zTuple) := ⟨_, eX hK, fun β xs ds M H Q Q' _ _ _ m rs z q => by
  unfold z1 at z
  split at z
  · rename_i d
    obtain ⟨x, rfl, r⟩ := eB rs
    unfold zTuple at z
    split at z
    · rename_i ds rB
      obtain ⟨a, vs, rfl, ha, gM⟩ := jy m r rB
      refine ⟨a, vs, rfl, ?_⟩
      rcases ha with ha | ha
      · refine .inl ⟨a8.of ha, fun l hl => ?_⟩
        have x2 := Ex.lay m hl (.tup vs)
        exact q _ _ _ _ x2 (fH (m.fz hl) aj (gM.ex x2)) z
      · refine .inr ⟨cB.of ha, ?_⟩
        have f : Fz β M a := by
          cases d with
          | tup es => obtain ⟨b, us, e, f, _⟩ := cV r; cases e; exact f
          | lst es => obtain ⟨b, us, e, f, _⟩ := ie r; cases e; exact f
          | ptr b =>
            obtain ⟨e, hs⟩ := cX r
            cases e
            cases q2 : M a with
            | none => rw [q2] at hs; cases hs
            | some o => have := m.jv ha rfl; rw [q2] at this; cases this
          | _ => cases rB
        exact q _ _ _ _ (.refl m) (fH f ha gM) z
    · exact z.elim
  · exact z.elim⟩
noncomputable def fb : List Dv → Option (List Int)
  | [] => some []
  | .int i :: ds => (fb ds).map (i :: ·)
  | _ :: _ => none
theorem um : ∀ {ds : List Dv} {ns : List Int}, fb ds = some ns → ds = ns.map Dv.int
  | [], ns, h => by simp only [fb, Option.some.injEq] at h; subst h; rfl
  | d :: ds, ns, h => by
    cases d with
    | int i =>
      simp only [fb, Option.map_eq_some_iff] at h
      obtain ⟨ms, h, rfl⟩ := h
      rw [um h]
      rfl
    | _ => simp [fb] at h
theorem dQ : ∀ ns : List Int, fb (ns.map Dv.int) = some ns
  | [] => rfl
  | n :: ns => by simp [fb, dQ ns]
theorem uo {M : Mh} {H : Hp} : ∀ {vs : List V} {ns : List Int}, bb β M H vs (ns.map Dv.int) → vs = ns.map V.int
  | [], [], _ => rfl
  | [], _ :: _, r => absurd r.len (by simp)
  | _ :: _, [], r => absurd r.len (by simp)
  | v :: vs, n :: ns, r => by
    rw [List.map_cons] at r
    rw [List.map_cons, aG r.head, uo r.tail]
theorem jz {M : Mh} {H : Hp} : ∀ {ns : List Int}, bb β M H (ns.map V.int) (ns.map Dv.int)
  | [] => .nil
  | n :: ns => .cons (.int _) jz
noncomputable def intsM (M : Mh) (d : Dv) : Option (List Int) := match d with | .set ns => some ns | _ => (itemsM M d).bind fb
noncomputable def zSorted (d : Dv) (M : Mh) (Q : ZK) : Prop := match intsM M d with | some ns => ns.length < 64 ∧ Q (.lst ((sortI ns).map .int)) M | none => False
theorem rC {M : Mh} {H : Hp} {x : V} {d : Dv} {ns : List Int} (m : Mz β M H) (r : Rz β M H x d) (h : (itemsM M d).bind fb = some ns) : ∃ a, x = .ref a ∧ (H a = some (.lst (ns.map V.int)) ∨ H a = some (.tup (ns.map V.int))) := by
  cases e : itemsM M d with
  | none => rw [e] at h; cases h
  | some ds =>
    rw [e] at h
    obtain ⟨a, vs, rfl, ha, rs⟩ := jy m r e
    have e2 := um (ns := ns) h
    subst e2
    have := uo rs
    subst this
    exact ⟨a, rfl, ha⟩
theorem uq (hP : X.prog = Γ.P) (hw : X.w = Γ.w) (hK : X.K = K) (hc : X.calm = true) : eJ Γ X (.builtin "sorted") (z1 zSorted) := ⟨_, rT hP hw hK hc, fun β xs ds M H Q Q' eP ew _ m rs z q => by
  unfold z1 at z
  split at z
  · rename_i d
    obtain ⟨x, rfl, r⟩ := eB rs
    unfold zSorted at z
    split at z
    · rename_i ns jL
      have fin : ∀ l, H l = none → Q (.ref l) (upd H l (.lst ((sortI ns).map V.int))) := fun l hl => by
        have x2 := Ex.lay m hl (.lst ((sortI ns).map V.int))
        exact q _ _ _ _ x2 (ki (m.fz hl) aj jz) z.2
      unfold intsM at jL
      split at jL
      · cases jL
        obtain ⟨a, rfl, f, h⟩ := rm r
        rw [eP, ew] at h
        exact ⟨a, _, rfl, .inl h, z.1, fin⟩
      · obtain ⟨a, rfl, ha⟩ := rC m r jL
        exact ⟨a, _, rfl, .inr (ha.imp a8.of cB.of), z.1, fin⟩
    · exact z.elim
  · exact z.elim⟩
noncomputable def zSet (d : Dv) (M : Mh) (Q : ZK) : Prop := match (itemsM M d).bind fb with | some ns => ns.length + 1 < scanBound ∧ Q (.set (c6 ns)) M | none => False
theorem DS (hP : X.prog = Γ.P) (hw : X.w = Γ.w) (hK : X.K = K) (hc : X.calm = true) : eJ Γ X (.type "set") (z1 zSet) := by
  refine ⟨tU Γ.P Γ.w K, by rw [← hP, ← hw]; exact xH hK hc, fun β xs ds M H Q Q' eP ew _ m rs z q => ?_⟩
  unfold z1 at z
  split at z
  · rename_i d
    obtain ⟨x, rfl, r⟩ := eB rs
    unfold zSet at z
    split at z
    · rename_i ns jL
      obtain ⟨a, rfl, ha⟩ := rC m r jL
      refine ⟨a, ns, rfl, ha.imp a8.of cB.of, z.1, fun l hl => ?_⟩
      have x2 := Ex.lay m hl (fw Γ.P Γ.w l (c6 ns))
      exact q _ _ _ _ x2 (.set (m.fz hl) (by rw [eP, ew]; exact aj)) z.2
    · exact z.elim
  · exact z.elim
noncomputable def zLenS (d : Dv) (M : Mh) (Q : ZK) : Prop := match d with | .set ns => Q (.int ns.length) M | _ => False
theorem HR (hP : X.prog = Γ.P) (hw : X.w = Γ.w) : eJ Γ X (.builtin "len") (z1 zLenS) := by
  refine ⟨DF Γ.P Γ.w, by rw [← hP, ← hw]; exact zL, fun β xs ds M H Q Q' eP ew _ m rs z q => ?_⟩
  unfold z1 at z
  split at z
  · obtain ⟨x, rfl, r⟩ := eB rs
    unfold zLenS at z
    split at z
    · obtain ⟨a, rfl, f, h⟩ := rm r
      rw [eP, ew] at h
      exact ⟨a, _, rfl, h, q _ _ _ _ (.refl m) (.int _) z⟩
    · exact z.elim
  · exact z.elim
noncomputable def isD (T : String) (M : Mh) (d : Dv) : Option Bool := match d with
  | .int _ => some (T == "int") | .bl _ => some (T == "int" || T == "bool") | .aq => some false | .str _ => some (T == "str") | .tup _ => some (T == "tuple") | .lst _ => some (T == "list") | .ptr a => (match M a with | some (.lst _) => some (T == "list") | some .bag => some (T == "list") | some _ => some false | none => none) | _ => none
noncomputable def qm : List String := ["int", "bool", "str", "tuple", "list"]
noncomputable def zIsInst : px := fun ds M Q => match ds with | [d, .raw (.ty T)] => T ∈ qm ∧ (match isD T M d with | some b => Q (.bl b) M | none => False) | _ => False
theorem HS {K : PySem.W.Frag} {M : Mh} {H : Hp} {x : V} {d : Dv} {T : String} {b : Bool} (m : Mz β M H) (hT : T ∈ qm) (r : Rz β M H x d) (h : isD T M d = some b) : ∃ t, fX K H x t ∧ PySem.W.kitOne K t (.type T) = some b := by
  have nX : T = "int" ∨ T = "bool" ∨ T = "str" ∨ T = "tuple" ∨ T = "list" := by simpa [qm] using hT
  cases r with
  | int i => cases h; exact ⟨_, .int i, by rcases nX with rfl | rfl | rfl | rfl | rfl <;> rfl⟩
  | bl i => cases h; exact ⟨_, .bl i, by rcases nX with rfl | rfl | rfl | rfl | rfl <;> rfl⟩
  | aq => cases h; exact ⟨_, .aq, by rcases nX with rfl | rfl | rfl | rfl | rfl <;> rfl⟩
  | str i => cases h; exact ⟨_, .str i, by rcases nX with rfl | rfl | rfl | rfl | rfl <;> rfl⟩
  | tup f e hl q => cases h; exact ⟨_, .tup e, by rcases nX with rfl | rfl | rfl | rfl | rfl <;> rfl⟩
  | lst f e hl q => cases h; exact ⟨_, .lst e, by rcases nX with rfl | rfl | rfl | rfl | rfl <;> rfl⟩
  | ptr hs =>
    rename_i a
    cases q2 : M a with
    | none => rw [q2] at hs; cases hs
    | some o =>
      simp only [isD, q2] at h
      have q := m.obj a o q2
      cases o with
      | lst ds => obtain ⟨vs, e, _⟩ := q; cases h; exact ⟨_, .lst e, by rcases nX with rfl | rfl | rfl | rfl | rfl <;> rfl⟩
      | bag => obtain ⟨_, _, e, _⟩ := q; cases h; exact ⟨_, .lst e, by rcases nX with rfl | rfl | rfl | rfl | rfl <;> rfl⟩
      | dk ks ds => obtain ⟨vs, e, _⟩ := q; cases h; exact ⟨_, .dK e, by rcases nX with rfl | rfl | rfl | rfl | rfl <;> rfl⟩
      | dt ks ds => obtain ⟨vs, e, _⟩ := q; cases h; exact ⟨_, .dT e, by rcases nX with rfl | rfl | rfl | rfl | rfl <;> rfl⟩
  | set f e => cases h
  | exc f e => cases h
  | bO f e => cases h
  | b7 f e => cases h
  | b8 e => cases h
  | raw v => cases h
  | dk f e _ _ _ => cases h
  | dt f e _ _ _ => cases h
  | cK _ _ _ _ _ _ => cases h
theorem gP (hK : X.K = K) : eJ Γ X (.builtin "isinstance") zIsInst := ⟨_, tJ hK, fun β xs ds M H Q Q' _ _ _ m rs z q => by
  unfold zIsInst at z
  split at z
  · obtain ⟨x, y, rfl, r, r'⟩ := eC rs
    rw [jR r']
    obtain ⟨hT, z⟩ := z
    split at z
    · rename_i b hb
      obtain ⟨t, ht, hk⟩ := HS (K := K) m hT r hb
      exact ⟨_, _, t, b, rfl, ht, hk, q _ _ _ _ (.refl m) (.bl _) z⟩
    · exact z.elim
  · exact z.elim⟩
noncomputable abbrev DT := Dv → List Dv → Mh → ZK → Prop
noncomputable def Le (Γ : Gz) (X : Cx) (T id : String) (K : PySem.W.Frag) (z : DT) : Prop := ∃ r, Dr X id r ∧ ∀ (β : Bz) x xs d ds M H Q Q', β.P = Γ.P → β.w = Γ.w → β.K = Γ.K → Mz β M H → Rz β M H x d → bb β M H xs ds → z d ds M Q' → (∀ d' M' v H', Ex β M H M' H' → Rz β M' H' v d' → Q' d' M' → Q v H') → r x xs H Q
noncomputable def tyZ (T : String) (M : Mh) : Dv → Prop
  | .ptr a => match M a with | some (.lst _) => T = "list" | some .bag => T = "list" | some (.dk _ _) => T = "dict" | some (.dt _ _) => T = "dict" | none => False
  | .lst _ => T = "list"
  | .tup _ => T = "tuple"
  | .str _ => T = "str"
  | _ => False
theorem HU {M : Mh} {H : Hp} {x : V} {d : Dv} {T : String} (m : Mz β M H) (r : Rz β M H x d) (h : tyZ T M d) : Gy K T x H := by
  cases r with
  | str => exact h
  | lst f e _ _ => exact .inl ⟨h, _, a8.of e⟩
  | tup f e _ _ => exact .inr (.inl ⟨h, .inr ⟨_, e⟩⟩)
  | ptr hs =>
    rename_i a
    cases q2 : M a with
    | none => rw [q2] at hs; cases hs
    | some o =>
      simp only [tyZ, q2] at h
      have q := m.obj a o q2
      cases o with
      | lst ds => obtain ⟨vs, e, _⟩ := q; exact .inl ⟨h, _, a8.of e⟩
      | bag => obtain ⟨_, _, e, _⟩ := q; exact .inl ⟨h, _, a8.of e⟩
      | dk ks ds => obtain ⟨vs, e, _⟩ := q; exact .inr (.inr (.inl ⟨h, .inl ⟨_, e⟩⟩))
      | dt ks ds => obtain ⟨vs, e, _⟩ := q; exact .inr (.inr (.inl ⟨h, .inr ⟨_, e⟩⟩))
  | _ => exact h.elim
noncomputable def zBM (T : String) (z : DT) (po : aT) (pa : gK) : aT := fun ρ M Q => po ρ M fun d M1 => tyZ T M1 d ∧ pa ρ M1 fun ds M2 => z d ds M2 Q
section
variable {o e : Expr} {es : List Expr} {po : aT} {pa : gK} {name : Str} {apos bG : Pos} {T id : String} {z : DT}
theorem JT (h : X.K = K) (pat : PlainAttrs T) (slot : Slot T name id) (sY : typeOf (.builtin id) = pure (.type "method_descriptor")) (hm : Le Γ X T id K z) (ho : QE Γ X o po) (ha : QA Γ X (e :: es) pa) (oQ : attributeBase o name X.env (eval o X.env) = eval o X.env := by rfl)
    (sZ : ((backTo bG (starEach (e :: es) X.env)).all (fun x => !x.1) && (backToKw bG (keywordEach [] X.env)).all (fun x => x.1.isSome)
      && decide ((e :: es).length + ([] : List Keyword).length + (if ([] : List Keyword).isEmpty then 0 else 1) < 30)) = true := by rfl)
    (hline : (apos.endLine == bG.line) = true := by rfl) (hs : starEach (e :: es) X.env = (false, eval e X.env) :: starEach es X.env := by rfl) (lZ : (backTo bG (starEach es X.env)).any (·.1) = false := by rfl) :
    QE Γ X (.Call (.Attribute o name apos) (e :: es) [] bG) (zBM T z po pa) := by
  obtain ⟨r, h1, h2⟩ := hm
  exact (oX h pat slot sY h1 ho ha oQ sZ hline hs lZ).imp fun σ H Q ⟨β, ρ, M, Q', zr, h, q⟩ => ⟨β, ρ, M, _, zr, h, fun d M1 v H1 x1 r1 ⟨ht, h1⟩ => ⟨HU x1.mz r1 ht, β, ρ, M1, _, zr.step x1, h1, fun ds M2 vs H2 x2 r2 h3 =>
    h2 β v vs d ds M2 H2 _ _ zr.eP zr.ew zr.eK x2.mz (r1.ex x2) r2 h3 fun d' M' v' H' x3 r3 q3 => q _ _ _ _ (x1.trans (x2.trans x3)) r3 q3⟩⟩
end
noncomputable def zIndexS : DT := fun d ds M Q => match d, ds with | .str a, [.str b] => (match Builtin.Str.occurrences a b 0 a.length 1 with | i :: _ => Q (.int (i : Nat)) M | [] => False) | _, _ => False
theorem Cv : Le Γ X "str" "str.index" K zIndexS := ⟨_, B5, fun β x xs d ds M H Q Q' _ _ _ m r rs z q => by
  unfold zIndexS at z
  split at z
  · split at z
    · rename_i i rest hi
      obtain ⟨v, e2, rv⟩ := eB rs
      subst e2
      exact ⟨_, _, i, rest, bB r, by rw [bB rv], hi, q _ _ _ _ (.refl m) (.int _) z⟩
    · exact z.elim
  · exact z.elim⟩
end
end L2
namespace L2
open PySem PySem.Spec PySem.W PyProof.Rows
noncomputable abbrev ZX := Addr → Mh → Prop
noncomputable abbrev dj := List Dv → Mh → ZK → ZX → Prop
noncomputable def bh (P : Program) (w : World) (K : PySem.W.Frag) (tb : cU) (S : dj) : Sp := fun vs H Q E => ∃ (β : Bz) (ds : List Dv) (M : Mh) (Q' : ZK) (E' : ZX), β.P = P ∧ β.w = w ∧ β.K = K ∧ β.tb = tb ∧ Mz β M H ∧ bb β M H vs ds ∧ S ds M Q' E' ∧
  (∀ d M' v H', Ex β M H M' H' → Rz β M' H' v d → Q' d M' → Q v H') ∧ ∀ C M' H', Ex β M H M' H' → E' C M' → E (.ref C) none H'
theorem Rz.sE {β : Bz} {M0 M : Mh} {H : Hp} (dom : ∀ a, (M0 a).isSome = true → (M a).isSome = true) {v : V} {d : Dv} (h : Rz β M H v d) : Pin M0 d → Rz β M0 H v d := by
  have ne : ∀ a, Fz β M a → Fz β M0 a := fun a m => ⟨(by
    cases e : M0 a with
    | none => rfl
    | some o => have := dom a (by rw [e]; rfl); rw [m.1] at this; cases this), m.2⟩
  induction h with
  | int i => exact fun _ => .int i
  | bl b => exact fun _ => .bl b
  | aq => exact fun _ => .aq
  | str z => exact fun _ => .str z
  | tup m e hl h ih =>
    intro p
    cases p with
    | tup p => exact .tup (ne _ m) e hl fun i v d a b => ih i v d a b (p d (List.mem_of_getElem? b))
  | lst m e hl h ih =>
    intro p
    cases p with
    | lst p => exact .lst (ne _ m) e hl fun i v d a b => ih i v d a b (p d (List.mem_of_getElem? b))
  | set m e => exact fun _ => .set (ne _ m) e
  | ptr m => intro p; cases p with | ptr p => exact .ptr p
  | exc m e => exact fun _ => .exc (ne _ m) e
  | bO m e => exact fun _ => .bO (ne _ m) e
  | b7 m e => exact fun _ => .b7 (ne _ m) e
  | b8 e => exact fun _ => .b8 e
  | dk m e hk hl h ih =>
    intro p
    cases p with
    | dk p => exact .dk (ne _ m) e hk hl fun i v d a b => ih i v d a b (p d (List.mem_of_getElem? b))
  | dt m e hk hl h ih =>
    intro p
    cases p with
    | dt p => exact .dt (ne _ m) e hk hl fun i v d a b => ih i v d a b (p d (List.mem_of_getElem? b))
  | cK m e m2 e2 hl h ih =>
    intro p
    cases p with
    | cK p => exact .cK (ne _ m) e (ne _ m2) e2 hl fun i v d a b => ih i v d a b (p d (List.mem_of_getElem? b))
  | raw v => exact fun _ => .raw v
inductive lK (M0 M : Mh) : Dv → Dv → Prop where
  | pin {d : Dv} (h : Pin M0 d) : lK M0 M d d
  | ptr {a : Addr} {ds gp : List Dv} (h0 : M0 a = none) (h : M a = some (.lst ds)) (hl : ds.length = gp.length) (r : ∀ (i : Nat) (d d' : Dv), ds[i]? = some d → gp[i]? = some d' → lK M0 M d d') : lK M0 M (.ptr a) (.lst gp)
  | tup {ds gp : List Dv} (hl : ds.length = gp.length) (r : ∀ (i : Nat) (d d' : Dv), ds[i]? = some d → gp[i]? = some d' → lK M0 M d d') : lK M0 M (.tup ds) (.tup gp)
  | dk {a : Addr} {ks : List Key} {ds gp : List Dv} (h0 : M0 a = none) (h : M a = some (.dk ks ds)) (hl : ds.length = gp.length) (r : ∀ (i : Nat) (d d' : Dv), ds[i]? = some d → gp[i]? = some d' → lK M0 M d d') : lK M0 M (.ptr a) (.dk ks gp)
  | dt {a : Addr} {ks : List (List Key)} {ds gp : List Dv} (h0 : M0 a = none) (h : M a = some (.dt ks ds)) (hl : ds.length = gp.length) (r : ∀ (i : Nat) (d d' : Dv), ds[i]? = some d → gp[i]? = some d' → lK M0 M d d') : lK M0 M (.ptr a) (.dt ks gp)
theorem lK.rz {β : Bz} {M0 M : Mh} {H : Hp} (mz : Mz β M H) (dom : ∀ a, (M0 a).isSome = true → (M a).isSome = true) {d d' : Dv} (h : lK M0 M d d') : ∀ {v : V}, Rz β M H v d → Rz β M0 H v d' := by
  induction h with
  | pin h => exact fun r => r.sE dom h
  | ptr h0 h hl r ih =>
    intro v r
    obtain ⟨rfl, _⟩ := cX r
    obtain ⟨vs, hv, rs⟩ := mz.obj _ _ h
    refine .lst ⟨h0, mz.apart _ _ h⟩ hv (rs.len.trans hl) fun i v d a b => ?_
    obtain ⟨d0, q, rd⟩ := rs.get' a
    exact ih i d0 d q b rd
  | dk h0 h hl r ih =>
    intro v r
    obtain ⟨rfl, _⟩ := cX r
    obtain ⟨vs, hv, hk, rs⟩ := mz.obj _ _ h
    refine .dk ⟨h0, mz.apart _ _ h⟩ (.inl hv) hk (rs.len.trans hl) fun i v d a b => ?_
    obtain ⟨d0, q, rd⟩ := rs.get' a
    exact ih i d0 d q b rd
  | dt h0 h hl r ih =>
    intro v r
    obtain ⟨rfl, _⟩ := cX r
    obtain ⟨vs, hv, hk, rs⟩ := mz.obj _ _ h
    refine .dt ⟨h0, mz.apart _ _ h⟩ (.inl hv) hk (rs.len.trans hl) fun i v d a b => ?_
    obtain ⟨d0, q, rd⟩ := rs.get' a
    exact ih i d0 d q b rd
  | tup hl r ih =>
    intro v r
    obtain ⟨a, vs, rfl, f, hv, rs⟩ := cV r
    refine .tup ⟨?_, f.2⟩ hv (rs.len.trans hl) fun i v d a b => ?_
    · cases e : M0 a with
      | none => rfl
      | some o => have := dom a (by rw [e]; rfl); rw [f.1] at this; cases this
    · obtain ⟨d0, q, rd⟩ := rs.get' a
      exact ih i d0 d q b rd
noncomputable def ou (M0 : Mh) (Q : ZK) : ZK := fun d M => Q d M ∨ ((∀ a o, M0 a = some o → M a = some o) ∧ ∃ d', lK M0 M d d' ∧ Q d' M0)
theorem wx {β : Bz} {M0 M : Mh} {H0 H : Hp} {Q' : ZK} {Q : VK} (m0 : Mz β M0 H0) (q : ∀ d M' v H', Ex β M0 H0 M' H' → Rz β M' H' v d → Q' d M' → Q v H') {d : Dv} {v : V} (x : Ex β M0 H0 M H) (r : Rz β M H v d) (h : ou M0 Q' d M) : Q v H := by
  rcases h with h | ⟨same, d', rv, h⟩
  · exact q _ _ _ _ x r h
  · refine q d' M0 v H ⟨⟨x.keep, fun _ h => h, fun _ _ h _ => h⟩, fun a o e => ?_, x.mz.tabs, x.mz.hids, m0.apart, x.mz.lams⟩ (rv.rz x.mz x.dom r) h
    have z := x.mz.obj a o (same a o e)
    have z0 := m0.obj a o e
    cases o with
    | lst ds =>
      obtain ⟨vs, z, rs⟩ := z
      obtain ⟨Lf, _, Aa⟩ := z0
      refine ⟨vs, z, rs.len, fun i v d a b => (rs.at' i v d a b).sE x.dom ?_⟩
      obtain ⟨v0, _, r0⟩ := Aa.get b
      exact r0.pin
    | dk ks ds =>
      obtain ⟨vs, z, hk, rs⟩ := z
      obtain ⟨Lf, _, _, Aa⟩ := z0
      refine ⟨vs, z, hk, rs.len, fun i v d a b => (rs.at' i v d a b).sE x.dom ?_⟩
      obtain ⟨v0, _, r0⟩ := Aa.get b
      exact r0.pin
    | dt ks ds =>
      obtain ⟨vs, z, hk, rs⟩ := z
      obtain ⟨Lf, _, _, Aa⟩ := z0
      refine ⟨vs, z, hk, rs.len, fun i v d a b => (rs.at' i v d a b).sE x.dom ?_⟩
      obtain ⟨v0, _, r0⟩ := Aa.get b
      exact r0.pin
    | bag => exact z
noncomputable def zstart (N : List Str) (ds : List Dv) : aP := ds.map some ++ List.replicate (N.length - ds.length) none
theorem ur {Γ : Gz} {N : List Str} {vs : List V} {ds : List Dv} (m : Mz Γ.toBz Γ.M0 Γ.H0) (rs : bb Γ.toBz Γ.M0 Γ.H0 vs ds) : Zr Γ Γ.toBz Γ.M0 (zstart N ds) (start N vs) Γ.H0 := ⟨rfl, rfl, rfl, rfl, fun _ h => h, m.wf, .refl, m, by simp [zstart, start, rs.len], fun i d e => by
  unfold zstart at e
  unfold start
  rw [List.getElem?_append] at e ⊢
  rw [List.length_map] at e ⊢
  rw [rs.len]
  split at e
  · rename_i hi
    rw [if_pos hi]
    rw [List.getElem?_map, Option.map_eq_some_iff] at e
    obtain ⟨d2, e, e2⟩ := e
    cases e2
    obtain ⟨v, hv, r⟩ := rs.get e
    exact ⟨v, by rw [List.getElem?_map, hv]; rfl, r⟩
  · rw [List.getElem?_replicate] at e
    split at e <;> cases e⟩
noncomputable def zEndsOf (M0 : Mh) (Q : ZK) : kZ := { nx := fun _ M => ou M0 Q .aq M, rt := ou M0 Q }
noncomputable def XR (Γ : Gz) (E' : ZX) (E : XK) : Prop := ∀ C M' H', Ex Γ.toBz Γ.M0 Γ.H0 M' H' → E' C M' → E (.ref C) none H'
section
variable {P : Program} {w : World} {K : PySem.W.Frag} {mg : Str → Option Value} {base : Heap} {tb : cU} {x : Str} {st : Stmt} {f : Addr} {fd : FuncData} {N ps : List Str} {k : Nat} {S : dj}
theorem wy (len : ∀ ds M Q E, S ds M Q E → ds.length = ps.length) : ∀ vs H Q E, bh P w K tb S vs H Q E → vs.length = ps.length := fun vs H Q E hS => by
  obtain ⟨β, ds, M, Q', E', _, _, _, _, m, rs, s, _⟩ := hS
  exact rs.len.trans (len _ _ _ _ s)
theorem ix (D : Df K mg x st ps f fd) (sc : aJ N ps (ak st)) (len : ∀ ds M Q E, S ds M Q E → ds.length = ps.length)
    (body : ∀ (A : Around) (outer : List Env) (s : Shared) (E : XK) (Γ : Gz) (ds : List Dv) (Q' : ZK) (E' : ZX), P = Γ.P → w = Γ.w → K = Γ.K → tb = Γ.tb → bV k (A.deeper (envOfC x (ak st) s.heap.objs.size f fd.code)) → S ds Γ.M0 Q' E' →
      ∃ p, kj Γ (fu bz P w K mg base N x (ak st) f fd.code A outer s Γ.H0 E).nM (cY st) p ∧ p (zEndsOf Γ.M0 Q') (zstart N ds) Γ.M0) : FnOk P w K mg base bz (k + 1) f fd ps (bh P w K tb S) := by
  refine D.fn.N2 sc (wy len) fun A outer s H vs Q E hr h => ?_
  obtain ⟨β, ds, M, Q', E', eP, ew, eK, et, m, rs, hS, q, _⟩ := h
  obtain ⟨p, hp, hq⟩ := body A outer s E ⟨β, M, H⟩ ds Q' E' eP.symm ew.symm eK.symm et.symm hr hS
  refine ⟨_, hp, β, zstart N ds, M, zEndsOf M Q', ur (Γ := ⟨β, M, H⟩) m rs, hq, ?_⟩
  have fin : ∀ d M' v H', Ex β M H M' H' → Rz β M' H' v d → ou M Q' d M' → Q v H' := fun d M' v H' x r h => wx m q x r h
  exact ⟨fun cD M' aC H' x zr h => fin _ _ _ _ ⟨zr.ent, x.mz⟩ .aq h, fun d M' v H' x e r h => fin _ _ _ _ ⟨e, x.mz⟩ r h, fun _ _ _ _ _ _ h => h, fun _ _ _ _ _ _ h => h⟩
end
section
variable {P : Program} {w : World} {K : PySem.W.Frag} {mg : Str → Option Value} {base : Heap} {tb : cU} {x : Str} {st : Stmt} {f : Addr} {fd : FuncData} {N ps : List Str} {k : Nat} {S : dj}
theorem iP (D : Df K mg x st ps f fd) (sc : aJ N ps (ak st)) (len : ∀ ds M Q E, S ds M Q E → ds.length = ps.length)
    (body : ∀ (A : Around) (outer : List Env) (s : Shared) (E : XK) (Γ : Gz) (ds : List Dv) (Q' : ZK) (E' : ZX), P = Γ.P → w = Γ.w → K = Γ.K → tb = Γ.tb → XR Γ E' E → bV k (A.deeper (envOfC x (ak st) s.heap.objs.size f fd.code)) → S ds Γ.M0 Q' E' →
      ∃ p, kj Γ (fu (cC P w) P w K mg base N x (ak st) f fd.code A outer s Γ.H0 E) (cY st) p ∧ p (zEndsOf Γ.M0 Q') (zstart N ds) Γ.M0) : FnOk P w K mg base (cC P w) (k + 1) f fd ps (bh P w K tb S) := by
  refine D.fn.tF sc (wy len) fun A outer s H vs Q E hr h => ?_
  obtain ⟨β, ds, M, Q', E', eP, ew, eK, et, m, rs, hS, q, qx⟩ := h
  obtain ⟨p, hp, hq⟩ := body A outer s E ⟨β, M, H⟩ ds Q' E' eP.symm ew.symm eK.symm et.symm qx hr hS
  refine ⟨_, hp, β, zstart N ds, M, zEndsOf M Q', ur (Γ := ⟨β, M, H⟩) m rs, hq, ?_⟩
  have fin : ∀ d M' v H', Ex β M H M' H' → Rz β M' H' v d → ou M Q' d M' → Q v H' := fun d M' v H' x r h => wx m q x r h
  exact ⟨fun cD M' aC H' x zr h => fin _ _ _ _ ⟨zr.ent, x.mz⟩ .aq h, fun d M' v H' x e r h => fin _ _ _ _ ⟨e, x.mz⟩ r h, fun _ _ _ _ _ _ h => h, fun _ _ _ _ _ _ h => h⟩
end
section
variable {X : Cx} {Γ : Gz} {β : Bz} {K : PySem.W.Frag}
noncomputable def zCall (S : dj) (E' : ZX) (za : gK) : aT := fun ρ M Q => za ρ M fun ds M1 => S ds M1 Q E'
theorem XR.none : XR Γ (fun _ _ => False) (fun _ _ _ => False) := fun _ _ _ _ h => h
theorem Ab {M M1 M2 : Mh} {H H1 H2 : Hp} (ent : Ey M H M1 H1) (sub : ∀ a, a ∈ Γ.hid → a ∈ β.hid) (eP : β.P = Γ.P) (ew : β.w = Γ.w) (eK : β.K = Γ.K) (et : β.tb = Γ.tb) (x : Ex β M1 H1 M2 H2) : Ex Γ.toBz M H M2 H2 := ⟨ent.trans x.toEy, x.mz.sub eP.symm ew.symm eK.symm et.symm sub⟩
section
variable {CX : j9} {k : Nat} {f : Addr} {fd : FuncData} {ps : List Str} {S : dj} {E : XK} {E' : ZX} {x : Str} {p pos : Pos} {e : Expr} {es : List Expr} {za : gK} {P : Program} {w : World} {tb : cU}
theorem HV (hP : P = Γ.P) (hw : w = Γ.w) (hK : K = Γ.K) (ht : tb = Γ.tb) (hE : XR Γ E' E) {σ : St} {H : Hp} {Q : VK} (h : lE Γ (zCall S E' za) σ H Q) : Dp (bh P w K tb S) [] E (lA Γ za) σ H Q := by
  subst hP hw hK ht
  obtain ⟨β, ρ, M, Q', zr, h, q⟩ := h
  refine ⟨β, ρ, M, _, zr, h, fun ds M1 vs H1 x1 r1 h1 => ?_⟩
  show bh Γ.P Γ.w Γ.K Γ.tb S (vs ++ []) H1 Q E
  rw [List.append_nil]
  exact ⟨β, ds, M1, Q', E', zr.eP, zr.ew, zr.eK, zr.et, x1.mz, r1, h1, fun d M2 v H2 x2 r2 h2 => q _ _ _ _ (x1.trans x2) r2 h2, fun C M2 H2 x2 h2 => hE C M2 H2 (Ab zr.ent zr.sub zr.eP zr.ew zr.eK zr.et (x1.trans x2)) h2⟩
theorem aE (F : FnOk X.prog X.w X.K X.mg X.base CX k f fd ps (bh P w K tb S)) (hr : bV k X.A) (hg : Gl X x) (hm : X.mg x = some (.ref f)) (hk : PySem.W.keepIn X.K (.ref f) = true) (hb : Binds X.K fd ps []) (hx : Passes CX X E) (hP : P = Γ.P) (hw : w = Γ.w) (hK : K = Γ.K) (ht : tb = Γ.tb) (hE : XR Γ E' E)
    (ha : QA Γ X (e :: es) za) (gj : (x == ("__debug__" : Str)) = false := by decide) (he : starEach (e :: es) X.env = (false, eval e X.env) :: starEach es X.env := by rfl) (eQ : (backTo pos (starEach es X.env)).any (·.1) = false := by rfl) :
    QE Γ X (.Call (.Name x p) (e :: es) [] pos) (zCall S E' za) := (dF F hr hg hm hk hb .nil hx ha gj he eQ).imp fun σ H Q h => HV hP hw hK ht hE h
end
noncomputable def zRaise (C : Addr) (E' : ZX) (za : gK) : cO := fun _ ρ M => za ρ M fun ds M1 => ds.length ≤ sizeLine ∧ E' C M1
theorem ow {x : Str} {C : Addr} {j5 : Expr} {rest : List Expr} {za : gK} {rg : List Value} {B newId tY : String} {E : XK} {E' : ZX} {np bG pos : Pos} (O : PySem.W.excIn X.K C rg newId = true) (FB : ExcBaseFacts B newId tY rg) (hc : X.calm = true) (hR : Raises X E) (hE : XR Γ E' E) (hg : Gl X x) (hm : X.mg x = some (.ref C)) (ha : QA Γ X (j5 :: rest) za)
    (gj : (x == ("__debug__" : Str)) = false := by decide) (he : starEach (j5 :: rest) X.env = (false, eval j5 X.env) :: starEach rest X.env := by rfl) (eQ : (backTo bG (starEach rest X.env)).any (·.1) = false := by rfl) :
    QS Γ X (.Raise (some (.Call (.Name x np) (j5 :: rest) [] bG)) none pos) (zRaise C E' za) := (B6 O FB hc hR hg hm ha gj he eQ).imp fun D σ H ⟨β, ρ, M, D', zr, h, r⟩ => ⟨β, ρ, M, _, zr, h, fun ds M1 vs H1 x1 r1 h1 =>
  ⟨by rw [r1.len]; exact h1.1, hE C M1 H1 (Ab zr.ent zr.sub zr.eP zr.ew zr.eK zr.et x1) h1.2⟩⟩
noncomputable def zTry (K : PySem.W.Frag) (C0 : Addr) (i n : Nat) (pb : ZX → cO) (ph : cO) : cO := fun D ρ M => pb (fun C M' => subIn K (.ref C) (.ref C0) = some true ∧ ph { D with nx := fun _ M2 => D.nx (List.replicate n none) M2, bk := fun _ M2 => D.bk (List.replicate n none) M2, ct := fun _ M2 => D.ct (List.replicate n none) M2 } ((List.replicate n none).set i (some (.exc C))) M') D ρ M
theorem HW {body suite : List Stmt} {x n : Str} {i : Nat} {np kW pos : Pos} {qj : Stmt} {C0 : Addr} {pb : ZX → cO} {ph : cO} {nn : Nat} (OG : X.N.length = nn) (hN : X.N.Nodup) (hi : X.N[i]? = some n) (hl : X.env.scope.names.lookup n = some .local) (jO : X.stack = X.env :: X.outer ∧ X.env.frame = some X.env.locals) (hex : X.ex = []) (O : jQ X.K C0) (hg : Gl X x) (hm : X.mg x = some (.ref C0))
    (hb : ∀ (T : Value → Shared → Prop) (pn : List (Addr × Obj)) (E : XK) (E' : ZX) (a9 : Gz), a9.P = Γ.P → a9.w = Γ.w → a9.K = Γ.K → a9.tb = Γ.tb → Passes (cC X.prog X.w) (X.kU T pn) E → XR a9 E' E → kj a9 (X.kU T pn) body (pb E')) (hs : ∀ a : Addr, kj Γ (X.suite a) (qj :: suite) ph)
    (gj : (x == ("__debug__" : Str)) = false := by decide) :
    QS Γ X (.Try body [.ExceptHandler (some (.Name x np)) (some n) (qj :: suite) kW] [] [] pos) (zTry X.K C0 i nn pb ph) := by
  subst OG
  refine (Hv (tb := fun E => fun D σ H => ∃ (a9 : Gz) (E' : ZX), a9.P = Γ.P ∧ a9.w = Γ.w ∧ a9.K = Γ.K ∧ a9.tb = Γ.tb ∧ XR a9 E' E ∧ lS a9 (pb E') D σ H) hN hi hl jO hex O hg hm (fun T pn E hp => ⟨fun pins s σ H D I h => ?_⟩) hs gj).imp fun D σ H ⟨β, ρ, M, D', zr, h, r⟩ => ⟨⟨β, M, H⟩, _, zr.eP, zr.ew, zr.eK, zr.et, ?_, β, ρ, M, D', ⟨rfl, rfl, rfl, rfl, fun _ h => h, zr.mz.wf, .refl, zr.mz, zr.len, zr.at'⟩, h, ?_⟩
  · obtain ⟨a9, E', e1, e2, e4, e3, hE, h⟩ := h
    exact (hb T pn E E' a9 e1 e2 e4 e3 hp hE) pins s σ H D I h
  · intro C M' H' x' hC
    have x' : Ex β M H M' H' := x'
    obtain ⟨j4, OH⟩ := hC
    refine ⟨C, rfl, j4, fun a ha => ?_⟩
    have x2 := Ex.lay x'.mz ha (og C a)
    have x3 := x'.trans x2
    have bare : ∀ {M2 : Mh} {H2 : Hp}, Ex β M H M2 H2 → Zr Γ β M2 (List.replicate X.N.length none) (blank X.N.length) H2 := fun x => ⟨zr.eP, zr.ew, zr.eK, zr.et, zr.sub, zr.wf, zr.ent.trans x.toEy, x.mz, by simp [blank], fun j d e => by
      rw [List.getElem?_replicate] at e
      split at e <;> cases e⟩
    refine ⟨β, _, M', _, (bare x3).set i (.exc (x'.mz.fz ha) aj), OH, ?_⟩
    have xO : ∀ {M2 : Mh} {fK : aP} {fF : St} {H2 : Hp}, Zr Γ β M2 fK fF H2 → Zr Γ β M2 (List.replicate X.N.length none) (blank X.N.length) H2 := fun z => ⟨z.eP, z.ew, z.eK, z.et, z.sub, z.wf, z.ent, z.mz, by simp [blank], fun j d e => by
      rw [List.getElem?_replicate] at e
      split at e <;> cases e⟩
    exact ⟨fun fK M2 fF H2 y z h => r.nx _ _ _ _ (x3.ev.trans y) (xO z) h, fun d M2 v H2 y e z h => r.rt _ _ _ _ (x3.ev.trans y) e z h, fun fK M2 fF H2 y z h => r.bk _ _ _ _ (x3.ev.trans y) (xO z) h, fun fK M2 fF H2 y z h => r.ct _ _ _ _ (x3.ev.trans y) (xO z) h⟩
  · have up : ∀ {cD : aP} {M2 : Mh} {aC : St} {H2 : Hp}, Zr ⟨β, M, H⟩ β M2 cD aC H2 → Zr Γ β M2 cD aC H2 := fun z => ⟨zr.eP, zr.ew, zr.eK, zr.et, zr.sub, zr.wf, zr.ent.trans z.ent, z.mz, z.len, z.at'⟩
    exact ⟨fun fK M2 fF H2 y z h => r.nx _ _ _ _ y (up z) h, fun d M2 v H2 y e z h => r.rt _ _ _ _ y (zr.ent.trans e) z h, fun fK M2 fF H2 y z h => r.bk _ _ _ _ y (up z) h, fun fK M2 fF H2 y z h => r.ct _ _ _ _ y (up z) h⟩
noncomputable def zIsE (K : PySem.W.Frag) : px := fun ds M Q => match ds with
  | [.exc C, .raw (.ref D)] => ee K C ∧ (match kitOne K (.ref C) (.ref D) with | some b => Q (.bl b) M | none => False)
  | [.exc C, .raw (.ty T)] => ee K C ∧ (match kitOne K (.ref C) (.type T) with | some b => Q (.bl b) M | none => False)
  | [.exc C, .tup es] => ee K C ∧ ∃ Ds : List Addr, es = Ds.map (fun D => .raw (.ref D)) ∧ (match kitAny K (.ref C) (Ds.map Value.ref) with | some b => Q (.bl b) M | none => False)
  | _ => False
theorem pD (hK : X.K = K) : eJ Γ X (.builtin "isinstance") (zIsE K) := ⟨_, B8 hK, fun β xs ds M H Q Q' _ _ _ m rs z q => by
  unfold zIsE at z
  split at z
  · rename_i C D
    obtain ⟨x, y, rfl, r, r'⟩ := eC rs
    obtain ⟨a, rfl, f, h⟩ := mJ r
    have e := jR r'
    subst e
    obtain ⟨hC, z⟩ := z
    split at z
    · rename_i b hb
      exact ⟨a, C, b, h, hC, .inl ⟨D, rfl, hb⟩, q _ _ _ _ (.refl m) (.bl _) z⟩
    · exact z.elim
  · rename_i C T
    obtain ⟨x, y, rfl, r, r'⟩ := eC rs
    obtain ⟨a, rfl, f, h⟩ := mJ r
    have e := jR r'
    subst e
    obtain ⟨hC, z⟩ := z
    split at z
    · rename_i b hb
      exact ⟨a, C, b, h, hC, .inr (.inl ⟨T, rfl, hb⟩), q _ _ _ _ (.refl m) (.bl _) z⟩
    · exact z.elim
  · rename_i C es
    obtain ⟨x, y, rfl, r, r'⟩ := eC rs
    obtain ⟨a, rfl, f, h⟩ := mJ r
    obtain ⟨b2, vs, rfl, f2, h2, gM⟩ := cV r'
    obtain ⟨hC, Ds, rfl, z⟩ := z
    split at z
    · rename_i b hb
      have ev : vs = Ds.map V.ref := by
        refine List.ext_getElem? fun i => ?_
        cases e : vs[i]? with
        | none =>
          have := List.getElem?_eq_none_iff.mp e
          have l := gM.len
          simp at l
          rw [List.getElem?_map, List.getElem?_eq_none_iff.mpr (by omega)]
          rfl
        | some v =>
          obtain ⟨d, hd, rd⟩ := gM.get' e
          rw [List.getElem?_map] at hd
          cases e2 : Ds[i]? with
          | none => rw [e2] at hd; cases hd
          | some D => rw [e2] at hd; cases hd; rw [List.getElem?_map, e2, jR rd]; rfl
      subst ev
      exact ⟨a, C, b, h, hC, .inr (.inr ⟨b2, Ds, rfl, h2, hb⟩), q _ _ _ _ (.refl m) (.bl _) z⟩
    · exact z.elim
  · exact z.elim⟩
section
variable {tg elt iter : Expr} {ifs : List Expr} {scope : Scope} {pos : Pos} {N' : List Str} {tn : Nat} {idx : List Nat} {zi : gL} {g : dP} {tt : dG} {te : aT} {c P : Addr} {k : Nat}
theorem nY (hc : X.calm = true) (B : aO X.N X.env.scope scope N' tn idx) (hi : QI Γ X tg iter zi)
    (hg : Blk X N' scope fun Y => QG Γ Y tg g) (ht : Blk X N' scope fun Y => z5 Γ Y ifs tt) (he : Blk X N' scope fun Y => QE Γ Y elt te)
    (hs : ∀ x, foldedSetIterable iter X.env x = pure x := by intro _; rfl) : QE Γ X (.ListComp elt [⟨tg, iter, ifs, 0⟩] scope pos) (zComp tn idx zi g tt te) := (j1 hc B hi hg ht he hs).imp fun σ H Q h => HJ h
theorem pE {p jk : Pos} (hP : P ∈ Γ.tb) (hr : bV (k + 1) X.A) (hc : X.calm = true) (B : aO X.N X.env.scope scope N' tn idx)
    (h0 : scope.names.lookup (".0" : Str) = some .local) (jN : scope.isCoroutine = false) (iL : X.env.code = .ref c) (hd : PySem.W.CodeHd X.base c P) (dh : ∃ bm ob, BMod X.base mainGlobals X.mg bm ob)
    (mi : Gl X "all") (hm : X.mg "all" = none) (hi : QI Γ X tg iter zi) (hg : dS X N' scope k fun Y => QG Γ Y tg g) (ht : dS X N' scope k fun Y => z5 Γ Y ifs tt) (he : dS X N' scope k fun Y => QE Γ Y elt te)
    (hs : ∀ x, genFold iter X.env x = pure x := by intro _; rfl) : QE Γ X (.Call (.Name "all" p) [dm elt tg iter ifs scope jk] [] pos) (zAll tn idx zi g tt te) := (GR hr hc B h0 jN iL hd dh mi hm hi hg ht he hs).imp fun σ H Q h => JN hP h
end
end
section
variable {X : Cx} {Γ : Gz} {β : Bz} {K : PySem.W.Frag}
section
variable {tg elt iter : Expr} {ifs : List Expr} {scope : Scope} {pos : Pos} {N' : List Str} {tn : Nat} {idx : List Nat} {zi : gL} {g : dP} {tt : dG} {te : aT} {c P : Addr} {k : Nat}
theorem nZ {p jk : Pos} (hP : P ∈ Γ.tb) (hr : bV (k + 1) X.A) (hc : X.calm = true) (B : aO X.N X.env.scope scope N' tn idx)
    (h0 : scope.names.lookup (".0" : Str) = some .local) (jN : scope.isCoroutine = false) (iL : X.env.code = .ref c) (hd : PySem.W.CodeHd X.base c P) (dh : ∃ bm ob, BMod X.base mainGlobals X.mg bm ob)
    (mi : Gl X "tuple") (hm : X.mg "tuple" = none) (hi : QI Γ X tg iter zi) (hg : dS X N' scope k fun Y => QG Γ Y tg g) (ht : dS X N' scope k fun Y => z5 Γ Y ifs tt) (he : dS X N' scope k fun Y => QE Γ Y elt te)
    (hs : ∀ x, genFold iter X.env x = pure x := by intro _; rfl) : QE Γ X (.Call (.Name "tuple" p) [dm elt tg iter ifs scope jk] [] pos) (zTupG tn idx zi g tt te) := (vc hr hc B h0 jN iL hd dh mi hm hi hg ht he hs).imp fun σ H Q h => HL hP h
noncomputable def k7 (g : dP) (tt : dG) (te : aT) : List Dv → aP → Mh → (List Int → Mh → Prop) → List Int → Prop
  | [], _, M, Q, acc => Q acc M
  | d :: ds, τ, M, Q, acc => g d τ M fun aI M2 => tt aI M2 fun b M3 => if b = true then te aI M3 fun y M4 => (match y with | .int k => acc.length + 1 < scanBound ∧ k7 g tt te ds aI M4 Q (cF acc k) | _ => False) else k7 g tt te ds aI M3 Q acc
noncomputable def zSetC (tn : Nat) (idx : List Nat) (zi : gL) (g : dP) (tt : dG) (te : aT) : aT := fun ρ M Q => zi ρ M fun ds M1 => k7 g tt te ds (zBlock tn idx ρ) M1 (fun ns M2 => Q (.set ns) M2) []
theorem HX (hP : X.prog = Γ.P) (hw : X.w = Γ.w) {σ : St} {H : Hp} {Q : VK} (h : lE Γ (zSetC tn idx zi g tt te) σ H Q) : zF X tn idx (lI Γ zi) (lG Γ g) (lT Γ tt) (lE Γ te) σ H Q := by
  obtain ⟨β, ρ, M, Q', zr, h, q⟩ := h
  refine ⟨β, ρ, M, _, zr, h, fun ds M1 H1 J x1 it h1 D hD => ?_⟩
  have jx := zr.step x1
  have OI := jx.block tn idx
  have OJ : Γ.H0 D = none := jx.ent.gone hD (by
    cases e : Γ.M0 D with
    | none => rfl
    | some u => have := jx.ent.dom D (by rw [e]; rfl); rw [x1.mz.free hD] at this; cases this)
  have OM := x1.mz.Cj hD
  have xn : D ∈ (β.add D).hid := List.mem_cons_self
  refine ⟨fun i m τ H' => m = ds.length - i ∧ i ≤ ds.length ∧ ∃ cG M' acc, Ey M1 H1 M' H' ∧ M' D = none ∧ Zr Γ (β.add D) M' cG τ H' ∧ H' D = some (fw X.prog X.w D acc) ∧ k7 g tt te (ds.drop i) cG M' (fun ns M2 => Q' (.set ns) M2) acc,
    ⟨_, rfl, Nat.zero_le _, _, M1, [], Ey.refl.over hD, x1.mz.free hD, OI.enter hD rfl, aj, h1⟩, ?_⟩
  rintro i m τ H' ⟨rfl, hi, cG, M', acc, ey, hm, gC, at', h'⟩
  have qq := it (β.add D) M' H' (.add hD) ey gC.mz i
  by_cases bo : i < ds.length
  · refine .inr ⟨(qq.1 bo).1, fun x mL y => ?_⟩
    obtain ⟨x2, d, hd, rd⟩ := (qq.1 bo).2 x mL y
    have e : ds.drop i = d :: ds.drop (i + 1) := by
      rw [List.drop_eq_getElem_cons bo]
      rw [List.getElem?_eq_getElem bo] at hd
      cases hd
      rfl
    rw [e] at h'
    refine ⟨β.add D, d, cG, M', _, gC.step x2, rd, h', fun fZ M3 ug H3 x3 z3 h3 => ⟨β.add D, fZ, M3, _, z3, h3, fun b M4 H4 x4 h4 => ?_⟩⟩
    have rA := x2.trans (x3.trans x4)
    cases b with
    | false =>
      dsimp only at h4 ⊢
      rw [if_neg Bool.false_ne_true] at h4 ⊢
      exact ⟨ds.length - (i + 1), by omega, rfl, bo, fZ, M4, acc, ey.trans rA.toEy, rA.new D _ hm at', z3.step x4, rA.get hm at' rfl, h4⟩
    | true =>
      dsimp only at h4 ⊢
      rw [if_pos rfl] at h4 ⊢
      refine ⟨β.add D, fZ, M4, _, z3.step x4, h4, fun yd M5 yv H5 x5 r5 h5 => ?_⟩
      have HY := rA.trans x5
      cases yd with
      | int k =>
        have h6 : acc.length + 1 < scanBound ∧ k7 g tt te (ds.drop (i + 1)) fZ M5 (fun ns M2 => Q' (.set ns) M2) (cF acc k) := h5
        have Lg := HY.new D _ hm at'
        exact ⟨k, acc, ds.length - (i + 1), aG r5, HY.get hm at' rfl, h6.1, by omega, rfl, bo, fZ, M5, cF acc k, (ey.trans HY.toEy).over hD, Lg, ((z3.step x4).step x5).over xn rfl Lg OM OJ, aj, h6.2⟩
      | _ => exact False.elim h5
  · have e : i = ds.length := by omega
    subst e
    rw [List.drop_length] at h'
    have mz : Mz β M' H' := Mz.sub (β := β.add D) (cL := β) rfl rfl rfl rfl (fun a h => List.mem_cons_of_mem _ h) gC.mz
    refine .inl ⟨qq.2 (Nat.le_refl _), q _ _ _ _ (x1.trans ⟨ey, mz⟩) (.set ⟨hm, (x1.mz.fz hD).2⟩ ?_) h'⟩
    rw [zr.eP, zr.ew, ← hP, ← hw]
    exact at'
theorem xP (hP : X.prog = Γ.P) (hw : X.w = Γ.w) (hc : X.calm = true) (B : aO X.N X.env.scope scope N' tn idx) (hi : QI Γ X tg iter zi)
    (hg : Blk X N' scope fun Y => QG Γ Y tg g) (ht : Blk X N' scope fun Y => z5 Γ Y ifs tt) (he : Blk X N' scope fun Y => QE Γ Y elt te)
    (hs : ∀ x, foldedSetIterable iter X.env x = pure x := by intro _; rfl) : QE Γ X (.SetComp elt [⟨tg, iter, ifs, 0⟩] scope pos) (zSetC tn idx zi g tt te) := (xG hc B hi hg ht he hs).imp fun σ H Q h => HX hP hw h
end
noncomputable def zRangeT (p : aT) : aT := fun ρ M Q => p ρ M fun d M1 => match d with | .int j => -(2 ^ 20) ≤ j ∧ j ≤ 2 ^ 20 ∧ Q (.tup ((bg j.toNat).map .int)) M1 | _ => False
section
variable {e : Expr} {pe : aT} {p p1 p2 pos : Pos}
theorem rV (hc : X.calm = true) (hg : Gl X "tuple") (hm : X.mg "tuple" = none) (nP : Gl X "range") (zf : X.mg "range" = none) (he : QE Γ X e pe) (hs : starEach [e] X.env = [(false, eval e X.env)] := by rfl) :
    QE Γ X (.Call (.Name "tuple" p) [.Call (.Name "range" p1) [e] [] p2] [] pos) (zRangeT pe) := (rR hc hg hm nP zf he hs).imp fun σ H Q ⟨β, ρ, M, Q', zr, h, q⟩ => ⟨β, ρ, M, _, zr, h, fun d M1 v H1 x1 r1 h1 => by
  revert h1
  split
  · rintro ⟨b1, b2, h1⟩
    refine ⟨_, aG r1, b1, b2, fun l hl => ?_⟩
    exact q _ _ _ _ (x1.trans (Ex.lay x1.mz hl _)) (fH (x1.mz.fz hl) aj jz) h1
  · exact fun h => h.elim⟩
noncomputable def zNeg (p : aT) : aT := fun ρ M Q => p ρ M fun d M1 => match d with | .int i => Q (.int (-i)) M1 | _ => False
theorem Ac (ha : QE Γ X e pe) : QE Γ X (.UnaryOp .USub e pos) (zNeg pe) := (Jq Gh ha).imp fun σ H Q ⟨β, ρ, M, Q', zr, h, q⟩ => ⟨β, ρ, M, _, zr, h, fun d M1 v H1 x1 r1 h1 => by
  revert h1
  split
  · intro h1
    exact ⟨_, aG r1, q _ _ _ _ x1 (.int _) h1⟩
  · exact fun h => h.elim⟩
end
theorem qv (i : Nat) {x : Str} {pos : Pos} (hN : X.N[i]? = some x := by rfl) (hv : sN X.env.scope x := by first | exact Or.inl rfl | exact Or.inr (Or.inl rfl) | exact Or.inr (Or.inr rfl)) (hd : (x == ("__debug__" : Str)) = false := by decide)
    (fD : (x == ("__classdict__" : Str)) = false := by decide) : QE Γ X (.Name x pos) (zVar i) := HC hN hv hd fD
end
theorem OO {c : Bool} {A B : Prop} (h : c = true) (a : A) : if c = true then A else B := by rw [if_pos h]; exact a
theorem OQ {c : Bool} {A B : Prop} (h : c = false) (b : B) : if c = true then A else B := by rw [h, if_neg Bool.false_ne_true]; exact b
theorem jA {c : Bool} {A B : Prop} (h1 : c = true → A) (h2 : c = false → B) : if c = true then A else B := by
  cases c
  · exact OQ rfl (h2 rfl)
  · exact OO rfl (h1 rfl)
theorem ko {g : dP} {te : aT} {M : Mh} (p : Dv → Bool) (I : aP → Prop) : ∀ {ds : List Dv} {τ : aP} {Q : Bool → Mh → Prop}, I τ → (∀ d ∈ ds, ∀ τ, I τ → ∀ R : aP → ZK, (∀ aI, I aI → R aI (.bl (p d)) M) → g d τ M fun aI M2 => te aI M2 (R aI)) → Q (ds.all p) M → jS g zNoIf te ds τ M Q
  | [], τ, Q, _, _, q => q
  | d :: ds, τ, Q, i, h, q => by
    refine h d List.mem_cons_self τ i (fun aI => zBool fun c M4 => if c = false then Q false M4 else jS g zNoIf te ds aI M4 Q) fun aI i2 => ?_
    show if p d = false then Q false M else jS g zNoIf te ds aI M Q
    cases e : p d with
    | false =>
      rw [if_pos rfl]
      rw [List.all_cons, e] at q
      exact q
    | true =>
      rw [if_neg (by decide)]
      rw [List.all_cons, e, Bool.true_and] at q
      exact ko p I i2 (fun d' hd => h d' (List.mem_cons_of_mem _ hd)) q
theorem nF {g : dP} {te : aT} (f : Dv → Dv) (I : aP → Mh → Prop) : ∀ {ds : List Dv} {τ : aP} {M : Mh} {Q : List Dv → Mh → Prop}, I τ M → (∀ d ∈ ds, ∀ τ M, I τ M → ∀ R : aP → ZK, (∀ aI M2, I aI M2 → R aI (f d) M2) → g d τ M fun aI M2 => te aI M2 (R aI)) → (∀ τ M, I τ M → Q (ds.map f) M) → zMap g zNoIf te ds τ M Q
  | [], τ, M, Q, i, _, q => q τ M i
  | d :: ds, τ, M, Q, i, h, q => by
    refine h d List.mem_cons_self τ M i (fun aI y M4 => zMap g zNoIf te ds aI M4 fun ys M5 => Q (y :: ys) M5) fun aI M2 i2 => ?_
    exact nF f I i2 (fun d' hd => h d' (List.mem_cons_of_mem _ hd)) fun ug M3 i3 => q ug M3 i3
theorem wz {g : dP} {te : aT} (f : Dv → Int) (I : aP → Mh → Prop) : ∀ {ds : List Dv} {τ : aP} {M : Mh} {Q : List Int → Mh → Prop} {acc : List Int}, I τ M → acc.length + ds.length + 1 < scanBound → (∀ d ∈ ds, ∀ τ M, I τ M → ∀ R : aP → ZK, (∀ aI M2, I aI M2 → R aI (.int (f d)) M2) → g d τ M fun aI M2 => te aI M2 (R aI)) → (∀ τ M, I τ M → Q ((ds.map f).foldl cF acc) M) → k7 g zNoIf te ds τ M Q acc
  | [], τ, M, Q, acc, i, _, _, q => q τ M i
  | d :: ds, τ, M, Q, acc, i, hl, h, q => by
    refine h d List.mem_cons_self τ M i (fun aI y M4 => match y with | .int k => acc.length + 1 < scanBound ∧ k7 g zNoIf te ds aI M4 Q (cF acc k) | _ => False) fun aI M2 i2 => ?_
    rw [List.length_cons] at hl
    refine ⟨by omega, wz f I i2 ?_ (fun d' hd => h d' (List.mem_cons_of_mem _ hd)) fun ug M3 i3 => q ug M3 i3⟩
    have := tO (ns := acc) (m := f d)
    omega
noncomputable abbrev eI (ns : List Int) : Dv := .tup (ns.map .int)
noncomputable abbrev eN (af : List (List Int)) : Dv := .tup (af.map eI)
theorem uv : ∀ ns : List Int, jU (ns.map Dv.int) = some (ns.map Dt.int)
  | [] => rfl
  | n :: ns => by simp only [List.map_cons, jU, cx, uv ns]
theorem pF : ∀ xs ys : List Int, fx (xs.map Dt.int) (ys.map Dt.int) = decide (xs = ys)
  | [], [] => by simp [fx]
  | [], _ :: _ => by simp [fx]
  | _ :: _, [] => by simp [fx]
  | x :: xs, y :: ys => by
    rw [List.map_cons, List.map_cons, fx, pF xs ys, di]
    by_cases h1 : x = y <;> by_cases h2 : xs = ys <;> simp [h1, h2]
theorem uw {n : Nat} : ∀ {ds : List Dt}, (∀ d ∈ ds, iE d ≤ n) → fy ds ≤ n
  | [], _ => by rw [fy]; exact Nat.zero_le _
  | d :: ds, h => by
    rw [fy]
    exact Nat.max_le.mpr ⟨h d List.mem_cons_self, uw fun d' hd => h d' (List.mem_cons_of_mem _ hd)⟩
theorem E3 (ns : List Int) : fy (ns.map Dt.int) ≤ 0 := uw fun d hd => by
  obtain ⟨i, _, rfl⟩ := List.mem_map.mp hd
  exact Nat.le_refl _
theorem Ex.bag {β : Bz} {M : Mh} {H H' : Hp} {b : Addr} (m : Mz β M H) (hb : H b = none) (k : bq H H') (hB : bH H' b) : Ex β M H (bK M b .bag) H' := by
  have x := Ex.of_keep m k
  have Qg := m.free hb
  have rz : ∀ {v : V} {d : Dv}, Rz β M H v d → Rz β (bK M b .bag) H' v d := fun r => by
    have ne : ∀ a u, Fz β M a → H a = some u → Fz β (bK M b .bag) a := fun a u f e => ⟨by rw [bC (av e hb)]; exact f.1, f.2⟩
    induction r with
    | int i => exact .int i
    | bl b => exact .bl b
    | aq => exact .aq
    | str z => exact .str z
    | tup m e hl h ih => exact .tup (ne _ _ m e) (k.tup e) hl ih
    | lst m e hl h ih => exact .lst (ne _ _ m e) (k.lst e) hl ih
    | dk m e hk hl h ih => exact .dk (ne _ _ m e.there.choose_spec) (e.mH rfl fun x hx h => k.get h (by intro ps z; subst z; cases hx)) hk hl ih
    | dt m e hk hl h ih => exact .dt (ne _ _ m e.there.choose_spec) (e.mH rfl fun x hx h => k.get h (by intro ps z; subst z; cases hx)) hk hl ih
    | cK m e m2 e2 hl h ih => exact .cK (ne _ _ m e) (k.get e (by intro ps z; cases z)) (ne _ _ m2 e2) (k.get e2 (by intro ps z; cases z)) hl ih
    | set m e => exact .set (ne _ _ m e) (k.get e (by intro ps z; cases z))
    | ptr m => exact .ptr (by unfold bK; split; rfl; exact m)
    | exc m e => exact .exc (ne _ _ m e) (k.get e (by intro ps z; cases z))
    | bO m e => exact .bO (ne _ _ m e) (k.get e (by intro ps z; cases z))
    | b7 m e => exact .b7 (ne _ _ m e) (k.get e (by intro ps z; cases z))
    | b8 e => exact .b8 e
    | raw v => exact .raw v
  refine ⟨⟨x.keep, fun a h => by unfold bK; split; rfl; exact h, fun a o hm h => by rw [bC (av h hb)]; exact hm⟩, fun a o e => ?_, x.mz.tabs, x.mz.hids, fun a o e z => ?_, x.mz.lams⟩
  · by_cases ha : a = b
    · subst ha
      rw [updM_same] at e
      cases e
      exact hB
    · rw [bC ha] at e
      have z := m.obj a o e
      cases o with
      | lst ds => obtain ⟨vs, z, l, r⟩ := z; exact ⟨vs, k.lst z, l, fun i v d a b => rz (r i v d a b)⟩
      | dk ks ds => obtain ⟨vs, z, hk, l, r⟩ := z; exact ⟨vs, k.get z (by intro ps z; cases z), hk, l, fun i v d a b => rz (r i v d a b)⟩
      | dt ks ds => obtain ⟨vs, z, hk, l, r⟩ := z; exact ⟨vs, k.get z (by intro ps z; cases z), hk, l, fun i v d a b => rz (r i v d a b)⟩
      | bag => exact bH.keep k z
  · by_cases ha : a = b
    · subst ha
      obtain ⟨u, hu, _⟩ := m.hids a z
      rw [hb] at hu
      cases hu
    · rw [bC ha] at e
      exact m.apart a o e z
noncomputable def spLaw (K : PySem.W.Frag) (tb : cU) : Sp := fun vs H Q _ => ∃ (a : Addr) (ns : List Int), vs = [.ref a] ∧ a8 K H a (ns.map V.int) ∧ ns.length ≤ 63 ∧ oV tb.g H ∧ (∀ p ∈ tb.l, Lm H p) ∧ ∀ H', (∀ p ∈ tb.l, ∃ ps, H' p.1 = some (.lam ps)) → Q (.bl true) H'
noncomputable def HZ : dj := fun ds M Q _ => ∃ ns : List Int, ds = [.bO ns] ∧ ns.length ≤ 63 ∧ (∀ a, M a = none) ∧ ∀ M', Q (.bl true) M'
theorem Ia {P : Program} {w : World} {K : PySem.W.Frag} {mg : Str → Option Value} {base : Heap} {k : Nat} {f : Addr} {fd : FuncData} {x : Str} {tb : cU} (G : FnOk P w K mg base bz k f fd [x] (bh P w K tb HZ)) : FnOk P w K mg base bz k f fd [x] (spLaw K tb) :=
  G.imp fun vs H Q E ⟨a, ns, e, hS, hl, hT, hL, q⟩ => by
    subst e
    have m : Mz ⟨P, w, K, tb, []⟩ (fun _ => none) H := ⟨(fun a o e => nomatch e), hT, (fun a ha => absurd ha (by simp)), (fun a o e => nomatch e), hL⟩
    refine ⟨⟨P, w, K, tb, []⟩, [.bO ns], fun _ => none, fun d _ => d = .bl true, fun _ _ => False, rfl, rfl, rfl, rfl, m, .cons ?_ .nil, ⟨ns, rfl, hl, fun _ => rfl, fun _ => rfl⟩, fun d M' v H' x r h => ?_, fun _ _ _ _ h => h.elim⟩
    · have fz : Fz ⟨P, w, K, tb, []⟩ (fun _ => none) a := ⟨rfl, by simp⟩
      rcases hS with (h | ⟨o, h⟩) | h
      · exact .b7 fz h
      · exact .bO fz h
      · exact .b8 h
    · subst h
      rw [c7 r]
      exact q H' fun p hp => let ⟨ps, e, _⟩ := x.mz.lams p hp; ⟨ps, e⟩
theorem Ib {β : Bz} {M : Mh} {H : Hp} {v : V} {af : List (List Int)} (m : Mz β M H) (h : Dy H v af) : Rz β M H v (eN af) := by
  have fz : ∀ a xs, H a = some (.tup xs) → Fz β M a := fun a xs e => ⟨m.jv e rfl, fun z => by
    obtain ⟨o, h, n⟩ := m.hids a z
    rw [e] at h
    cases h
    cases n⟩
  obtain ⟨a, rs, rfl, ha, p⟩ := h
  refine .tup (fz _ _ ha) ha (by rw [List.length_map]; exact p.length) fun i v d hv hd => ?_
  rw [List.getElem?_map, Option.map_eq_some_iff] at hd
  obtain ⟨r, hr, rfl⟩ := hd
  obtain ⟨v2, Lh, q, rfl, hq⟩ := oU p hr
  rw [hv] at Lh
  cases Lh
  exact fH (fz _ _ hq) hq jz
noncomputable def Keeps (M0 M : Mh) : Prop := ∀ a o, M0 a = some o → M a = some o
theorem Keeps.refl {M0 : Mh} : Keeps M0 M0 := fun _ _ h => h
theorem Keeps.upd {M0 M : Mh} {a : Addr} {o : Mo} (ha : M0 a = none) (h : Keeps M0 M) : Keeps M0 (bK M a o) := fun b u e => by
  rw [bC (fun z => by rw [z, ha] at e; cases e)]
  exact h b u e
theorem Ad {M0 M : Mh} {Q : ZK} {d : Dv} (h : Keeps M0 M) (p : Pin M0 d) (q : Q d M0) : ou M0 Q d M := .inr ⟨h, d, .pin p, q⟩
theorem jV {lo : Int} {n i : Nat} {d : Dv} (h : (eT lo n)[i]? = some d) : d = .int (lo + (i : Nat)) ∧ i < n := by
  unfold eT at h
  rw [List.getElem?_map] at h
  cases e : (List.range n)[i]? with
  | none => rw [e] at h; cases h
  | some k =>
    rw [e] at h
    obtain ⟨h1, h2⟩ := List.getElem?_eq_some_iff.mp e
    rw [List.getElem_range] at h2
    subst h2
    exact ⟨(Option.some.inj h).symm, by simpa using h1⟩
theorem rangeD_len (lo : Int) (n : Nat) : (eT lo n).length = n := by simp [eT]
theorem atI_zero {α : Type} {x : α} {xs : List α} : dO (x :: xs) 0 = some x := cN (j := 0) rfl
end L2
namespace L2
open PySem PySem.Spec PyProof.Rows
noncomputable def ux (N : List Str) (sc scope : Scope) (N' : List Str) (tn : Nat) (idx : List Nat) : Prop :=
  scope.kind = .function ∧ (∀ y ∈ scope.names, (y.2 = .cell → scope.names.lookup y.1 = some .cell) ∧ (y.2 = .local → scope.names.lookup y.1 = some .local) ∧ (y.2 = .free → sc.names.lookup y.1 = some .cell ∨ sc.names.lookup y.1 = some .free)) ∧
    N'.length = tn + idx.length ∧ ∀ p ∈ idx.zip (N'.drop tn), N[p.1]? = some p.2 ∧ scope.names.lookup p.2 = some .free
instance (N : List Str) (sc scope : Scope) (N' : List Str) (tn : Nat) (idx : List Nat) : Decidable (ux N sc scope N' tn idx) := by unfold ux; infer_instance
section
variable {κ : Type} [DecidableEq κ] {α : Type}
noncomputable def look : List κ → List α → κ → Option α
  | k :: ks, d :: ds, x => if k = x then some d else look ks ds x
  | _, _, _ => none
noncomputable def g0 : List κ → List α → κ → α → List α
  | k :: ks, d :: ds, x, y => (if k = x then y else d) :: g0 ks ds x y
  | _, _, _, _ => []
noncomputable def putL (ks : List κ) (k : κ) : List κ := if k ∈ ks then ks else ks ++ [k]
noncomputable def f9 (ks : List κ) (ds : List α) (k : κ) (d : α) : List α := if k ∈ ks then g0 ks ds k d else ds ++ [d]
theorem jW {x : κ} : ∀ {ks : List κ} {ds : List α}, ks.length = ds.length → (look ks ds x = none ↔ x ∉ ks)
  | [], [], _ => by simp [look]
  | k :: ks, d :: ds, h => by
    have ih := jW (x := x) (ks := ks) (ds := ds) (by simpa using h)
    unfold look
    by_cases e : k = x
    · simp [e]
    · rw [if_neg e, ih, List.mem_cons]
      constructor
      · rintro a (b | b)
        · exact e b.symm
        · exact a b
      · exact fun a b => a (.inr b)
  | [], _ :: _, h => by simp at h
  | _ :: _, [], h => by simp at h
theorem ox (x : κ) : ∀ (ks : List κ) (vs : List V), iu (ks.zip vs) x = look ks vs x
  | [], vs => by cases vs <;> rfl
  | _ :: _, [] => rfl
  | k :: ks, v :: vs => by
    rw [List.zip_cons_cons]
    unfold look
    by_cases e : k = x
    · rw [if_pos e]; exact kX (p := (k, v)) e
    · rw [if_neg e, kY (p := (k, v)) e]; exact ox x ks vs
theorem uy (x : κ) : ∀ (ks : List κ) (ds : List α) {d : α}, look ks ds x = some d → ∃ i : Nat, ks[i]? = some x ∧ ds[i]? = some d ∧ ∀ {β : Type} (es : List β), look ks es x = es[i]?
  | [], ds, d, h => by cases ds <;> cases h
  | _ :: _, [], d, h => by cases h
  | k :: ks, e :: ds, d, h => by
    unfold look at h
    by_cases q : k = x
    · rw [if_pos q] at h
      cases h
      refine ⟨0, by rw [q]; rfl, rfl, fun es => ?_⟩
      cases es with
      | nil => rfl
      | cons a es => unfold look; rw [if_pos q]; rfl
    · rw [if_neg q] at h
      obtain ⟨i, a, b, c⟩ := uy x ks ds h
      refine ⟨i + 1, a, b, fun es => ?_⟩
      cases es with
      | nil => rfl
      | cons y es => unfold look; rw [if_neg q, c es]; rfl
theorem mQ (x : κ) : ∀ (ks : List κ) (ds : List α) {β : Type} (es : List β), ds.length = es.length → look ks ds x = none → look ks es x = none
  | [], ds, _, es, _, _ => by cases es <;> rfl
  | _ :: _, [], _, es, h, _ => by cases es with
    | nil => rfl
    | cons _ _ => simp at h
  | k :: ks, d :: ds, _, [], h, _ => by simp at h
  | k :: ks, d :: ds, _, e :: es, h, q => by
    unfold look at q ⊢
    by_cases z : k = x
    · rw [if_pos z] at q; cases q
    · rw [if_neg z] at q ⊢
      exact mQ x ks ds es (by simpa using h) q
theorem rD (x : κ) (y : α) : ∀ (ks : List κ) (ds : List α), ks.length = ds.length → (g0 ks ds x y).length = ds.length
  | [], [], _ => rfl
  | k :: ks, d :: ds, h => by unfold g0; rw [List.length_cons, rD x y ks ds (by simpa using h)]; rfl
  | [], _ :: _, h => by simp at h
  | _ :: _, [], h => by simp at h
theorem uz {ks : List κ} {ds : List α} (h : ks.length = ds.length) (k : κ) (d : α) : (putL ks k).length = (f9 ks ds k d).length := by
  unfold putL f9
  split
  · rw [rD _ _ _ _ h, h]
  · simp [h]
theorem rE (x : κ) (y : V) : ∀ (ks : List κ) (vs : List V), ks.length = vs.length → (ks.zip vs).map (fun kv => if kv.1 = x then (kv.1, y) else kv) = ks.zip (g0 ks vs x y)
  | [], [], _ => rfl
  | k :: ks, d :: ds, h => by
    unfold g0
    rw [List.zip_cons_cons, List.zip_cons_cons, List.map_cons, rE x y ks ds (by simpa using h)]
    congr 1
    dsimp only
    split <;> rfl
  | [], _ :: _, h => by simp at h
  | _ :: _, [], h => by simp at h
theorem wA {ks : List κ} {vs : List V} (h : ks.length = vs.length) (k : κ) (v : V) : putK (ks.zip vs) k v = (putL ks k).zip (f9 ks vs k v) := by
  have e : ((ks.zip vs).any fun kv => decide (kv.1 = k)) = decide (k ∈ ks) := by
    rw [oj, ox]
    cases q : look ks vs k with
    | none => exact (decide_eq_false ((jW h).mp q)).symm
    | some x =>
      have hm : k ∈ ks := Classical.byContradiction fun z => by rw [(jW h).mpr z] at q; cases q
      rw [decide_eq_true hm]; rfl
  unfold putK putL f9
  rw [e]
  by_cases q : k ∈ ks
  · rw [if_pos (decide_eq_true q), if_pos q, if_pos q]
    exact rE k v ks vs h
  · rw [if_neg (by rw [decide_eq_false q]; exact Bool.false_ne_true), if_neg q, if_neg q, List.zip_append h]
    rfl
end
section
variable {β : Bz} {M : Mh} {H : Hp} {κ : Type} [DecidableEq κ]
theorem rF (x : κ) {v : V} {d : Dv} (r : Rz β M H v d) : ∀ (ks : List κ) (vs : List V) (ds : List Dv), bb β M H vs ds → bb β M H (g0 ks vs x v) (g0 ks ds x d)
  | [], _, _, _ => by
    unfold g0; exact .nil
  | _ :: _, [], [], _ => .nil
  | _ :: _, [], _ :: _, h => absurd h.len (by simp)
  | _ :: _, _ :: _, [], h => absurd h.len (by simp)
  | k :: ks, u :: vs, e :: ds, h => by
    unfold g0
    refine .cons ?_ (rF x r ks vs ds h.tail)
    split
    · exact r
    · exact h.head
theorem uA (x : κ) {v : V} {d : Dv} (r : Rz β M H v d) {ks : List κ} {vs : List V} {ds : List Dv} (h : bb β M H vs ds) : bb β M H (f9 ks vs x v) (f9 ks ds x d) := by
  unfold f9
  split
  · exact rF x r ks vs ds h
  · exact h.snoc r
theorem uB {ks : List κ} {vs : List V} {ds : List Dv} (rs : bb β M H vs ds) {x : κ} {o : Option Dv} (h : look ks ds x = o) : ∃ ov, iu (ks.zip vs) x = ov ∧ ov.isSome = o.isSome ∧ ∀ r, o = some r → ∃ v, ov = some v ∧ Rz β M H v r := by
  rw [ox]
  cases o with
  | none => exact ⟨none, mQ x ks ds vs rs.len.symm h, rfl, fun r e => nomatch e⟩
  | some r =>
    obtain ⟨i, a, b, c⟩ := uy x ks ds h
    obtain ⟨v, hv, rv⟩ := rs.get b
    exact ⟨some v, (c vs).trans hv, rfl, fun r' e => by cases e; exact ⟨v, rfl, rv⟩⟩
end
noncomputable def keyD : Dv → Option Key
  | .int i => some (.inl i)
  | .str z => some (.inr z)
  | _ => none
noncomputable def jX : List Dv → Option (List Key)
  | [] => some []
  | d :: ds => match keyD d, jX ds with | some k, some ks => some (k :: ks) | _, _ => none
theorem pG : ∀ (ns : List Int), jX (ns.map Dv.int) = some (ns.map Sum.inl)
  | [] => rfl
  | n :: ns => by rw [List.map_cons, jX, pG ns]; rfl
noncomputable def nowK (M : Mh) : Dv → Dv
  | .ptr a => match M a with | some (.dk ks ds) => .dk ks ds | some (.dt ks ds) => .dt ks ds | _ => .ptr a
  | d => d
noncomputable def lookD (M : Mh) (d e : Dv) : Option (Option Dv) := match nowK M d with
  | .dk ks ds => (match keyD e with | some k => some (look ks ds k) | none => none)
  | .dt ks ds => (match e with | .tup es => (match jX es with | some k => some (look ks ds k) | none => none) | _ => none)
  | _ => none
section
variable {X : Cx} {Γ : Gz} {β : Bz} {K : PySem.W.Frag} {M : Mh} {H : Hp}
theorem qo {y : V} {e : Dv} {k : Key} (r : Rz β M H y e) (h : keyD e = some k) : y = kV k := by
  cases e with
  | int i => cases h; exact aG r
  | str z => cases h; exact bB r
  | _ => cases h
theorem k8 : ∀ {es : List Dv} {ks : List Key} {vs : List V}, bb β M H vs es → jX es = some ks → vs = ks.map kV
  | [], ks, vs, rs, h => by
    cases h
    cases vs with
    | nil => rfl
    | cons _ _ => exact absurd rs.len (by simp)
  | e :: es, ks, [], rs, h => absurd rs.len (by simp)
  | e :: es, ks, v :: vs, rs, h => by
    unfold jX at h
    split at h
    · rename_i k Qh h1 h2
      cases h
      rw [List.map_cons, qo rs.head h1, k8 rs.tail h2]
    · cases h
theorem wB (m : Mz β M H) {x : V} {d : Dv} (r : Rz β M H x d) : (∀ ks ds, nowK M d = .dk ks ds → ∃ a vs, x = .ref a ∧ Rd H a (.dK (ks.zip vs)) ∧ ks.length = vs.length ∧ bb β M H vs ds) ∧
    (∀ ks ds, nowK M d = .dt ks ds → ∃ a vs, x = .ref a ∧ Rd H a (.dT (ks.zip vs)) ∧ ks.length = vs.length ∧ bb β M H vs ds) := by
  cases r with
  | dk f e hk hl h => exact ⟨fun ks ds q => (by cases q; exact ⟨_, _, rfl, e, hk, hl, h⟩), fun ks ds q => by cases q⟩
  | dt f e hk hl h => exact ⟨fun ks ds q => (by cases q), fun ks ds q => by cases q; exact ⟨_, _, rfl, e, hk, hl, h⟩⟩
  | @ptr a hs =>
    simp only [nowK]
    cases q2 : M a with
    | none => rw [q2] at hs; cases hs
    | some o =>
      have q := m.obj a o q2
      cases o with
      | dk ks ds => obtain ⟨vs, e, hk, rs⟩ := q; exact ⟨fun ks ds q => (by cases q; exact ⟨_, _, rfl, .inl e, hk, rs⟩), fun ks ds q => by cases q⟩
      | dt ks ds => obtain ⟨vs, e, hk, rs⟩ := q; exact ⟨fun ks ds q => (by cases q), fun ks ds q => by cases q; exact ⟨_, _, rfl, .inl e, hk, rs⟩⟩
      | _ => exact ⟨fun ks ds q => (by cases q), fun ks ds q => by cases q⟩
  | _ => exact ⟨fun ks ds q => (by cases q), fun ks ds q => (by cases q)⟩
theorem uC (m : Mz β M H) {x y : V} {d e : Dv} {o : Option Dv} (r : Rz β M H x d) (re : Rz β M H y e) (h : lookD M d e = some o) : ∃ a ov, x = .ref a ∧ qk H a y ov ∧ ov.isSome = o.isSome ∧ ∀ r, o = some r → ∃ v, ov = some v ∧ Rz β M H v r := by
  unfold lookD at h
  obtain ⟨h1, h2⟩ := wB m r
  split at h
  · rename_i ks ds q
    obtain ⟨a, vs, rfl, ha, hk, rs⟩ := h1 ks ds q
    split at h
    · rename_i k uD
      rw [qo re uD]
      obtain ⟨ov, e1, e2, e3⟩ := uB rs (Option.some.inj h)
      subst e1
      exact ⟨a, _, rfl, .inl ⟨_, k, ha, rfl, rfl⟩, e2, e3⟩
    · cases h
  · rename_i ks ds q
    obtain ⟨a, vs, rfl, ha, hk, rs⟩ := h2 ks ds q
    split at h
    · split at h
      · rename_i k uD
        obtain ⟨b, us, rfl, _, hb, ru⟩ := cV re
        rw [k8 ru uD] at hb
        obtain ⟨ov, e1, e2, e3⟩ := uB rs (Option.some.inj h)
        subst e1
        exact ⟨a, _, rfl, .inr ⟨_, k, b, ha, rfl, hb, rfl⟩, e2, e3⟩
      · cases h
    · cases h
  · cases h
noncomputable def zGetR : dB := fun d e M Q => match lookD M d e with | some (some r) => Q r M | _ => False
theorem wC {a b : Expr} {pa pb : aT} {pos : Pos} (hu : X.A.units + 64 < cLine) (ha : QE Γ X a pa) (hb : QE Γ X b pb) (hs : Cd b) : QE Γ X (.Subscript a b pos) (zOp zGetR pa pb) :=
  (EL (by omega) ha hb hs).imp fun σ H Q ⟨β, ρ, M, Q', zr, h, q⟩ => ⟨β, ρ, M, _, zr, h, fun d M1 v H1 x1 r1 h1 => ⟨β, ρ, M1, _, zr.step x1, h1, fun e M2 u H2 x2 r2 h2 => by
    unfold zGetR at h2
    split at h2
    · rename_i r hl
      obtain ⟨a, ov, rfl, g, _, e3⟩ := uC x2.mz (r1.ex x2) r2 hl
      obtain ⟨w, rfl, ka⟩ := e3 r rfl
      exact ⟨a, w, rfl, g, q _ _ _ _ (x1.trans x2) ka h2⟩
    · exact h2.elim⟩⟩
noncomputable def zDIn (neg : Bool) : dB := fun e d M Q => match lookD M d e with | some o => Q (.bl (if neg then !o.isSome else o.isSome)) M | none => False
noncomputable def Ic (neg : Bool) : R2 := fun y x H Q => ∃ a o, x = .ref a ∧ qk H a y o ∧ Q (.bl (if neg then !o.isSome else o.isSome)) H
theorem E4 {neg : Bool} : pq Γ (Ic neg) (zDIn neg) := fun β x y d e M H Q Q' _ _ _ m rx ry z q => by
  unfold zDIn at z
  split at z
  · rename_i o hl
    obtain ⟨a, ov, rfl, g, e2, _⟩ := uC m ry rx hl
    refine ⟨a, ov, rfl, g, ?_⟩
    rw [e2]
    exact q _ _ _ _ (.refl m) (.bl _) z
  · exact z.elim
theorem Cw (hu : X.A.units + 64 < cLine) : eG Γ X (compareOp .NotIn) (zDIn true) := ⟨Ic true, fun pins s σ H x y v u Q I rx ry ⟨a, o, e, g, q⟩ => by
  subst e
  cases (show u = Value.ref a from ry)
  exact EJ (by omega) I g rx fun s3 I3 => ⟨.bl (!o.isSome), H, I3, rfl, q⟩, E4⟩
end
section
variable {β : Bz} {M : Mh} {H : Hp} {D : Addr} {o' : Mo} {u : HO}
theorem E5 {v : V} {d : Dv} (r : Rz (β.add D) M H v d) : Rz β (bK M D o') (upd H D u) v d := by
  have na : ∀ a, Fz (β.add D) M a → a ≠ D := fun a f z => f.2 (by rw [z]; exact List.mem_cons_self)
  have ne : ∀ a, Fz (β.add D) M a → Fz β (bK M D o') a := fun a f => ⟨by rw [bC (na a f)]; exact f.1, fun z => f.2 (List.mem_cons_of_mem _ z)⟩
  have pre : ∀ a x, Fz (β.add D) M a → H a = some x → upd H D u a = some x := fun a x f e => by rw [ae (na a f)]; exact e
  induction r with
  | int i => exact .int i
  | bl b => exact .bl b
  | aq => exact .aq
  | str z => exact .str z
  | tup m e hl h ih => exact .tup (ne _ m) (pre _ _ m e) hl ih
  | lst m e hl h ih => exact .lst (ne _ m) (pre _ _ m e) hl ih
  | dk m e hk hl h ih => exact .dk (ne _ m) (e.map fun _ h => pre _ _ m h) hk hl ih
  | dt m e hk hl h ih => exact .dt (ne _ m) (e.map fun _ h => pre _ _ m h) hk hl ih
  | cK m e m2 e2 hl h ih => exact .cK (ne _ m) (pre _ _ m e) (ne _ m2) (pre _ _ m2 e2) hl ih
  | set m e => exact .set (ne _ m) (pre _ _ m e)
  | ptr m => exact .ptr (by unfold bK; split; rfl; exact m)
  | exc m e => exact .exc (ne _ m) (pre _ _ m e)
  | bO m e => exact .bO (ne _ m) (pre _ _ m e)
  | b7 m e => exact .b7 (ne _ m) (pre _ _ m e)
  | b8 e => exact .b8 e
  | raw v => exact .raw v
theorem k9 {vs : List V} {ds : List Dv} (r : bb (β.add D) M H vs ds) : bb β (bK M D o') (upd H D u) vs ds := ⟨r.len, fun i v d a b => E5 (r.at' i v d a b)⟩
theorem Ex.Ie {M2 : Mh} {H2 : Hp} {o : HO} (x : Ex β M H M2 H2) (hD : D ∈ β.hid) (m : M D = none) (h : H D = some o) (ho : t6 o = true) : H2 D = some o := by
  rcases x.keep D o m h with q | ⟨o', t, q⟩
  · exact q
  · rcases t with ⟨_, _, rfl, _⟩ | ⟨_, _, rfl, _⟩ | ⟨_, ob, rfl⟩
    · cases ho
    · cases ho
    · obtain ⟨w, e, n⟩ := x.mz.hids D hD
      rw [q] at e; cases e; cases n
theorem Mz.M8 (m : Mz (β.add D) M H) (hM : M D = none) (hD : D ∉ β.hid) (nt : D ∉ β.tb) (hu : mI u = true) (r : rk β (bK M D o') (upd H D u) D o') : Mz β (bK M D o') (upd H D u) := by
  obtain ⟨oD, eD, nD⟩ := m.hids D List.mem_cons_self
  refine ⟨fun a o e => ?_, fun q hq => ?_, fun a ha => (m.hids a (List.mem_cons_of_mem _ ha)).upd (.inr hu), fun a o e z => ?_, fun q hq => ?_⟩
  · by_cases ha : a = D
    · subst ha
      rw [updM_same] at e
      cases e
      exact r
    · rw [bC ha] at e
      have z := m.obj a o e
      cases o with
      | lst ds => obtain ⟨vs, z, rs⟩ := z; exact ⟨vs, by rw [ae ha]; exact z, k9 rs⟩
      | dk ks ds => obtain ⟨vs, z, hk, rs⟩ := z; exact ⟨vs, by rw [ae ha]; exact z, hk, k9 rs⟩
      | dt ks ds => obtain ⟨vs, z, hk, rs⟩ := z; exact ⟨vs, by rw [ae ha]; exact z, hk, k9 rs⟩
      | bag => obtain ⟨c, n, z, q⟩ := z; exact ⟨c, n, by rw [ae ha]; exact z, q⟩
  · obtain ⟨ps, e, t⟩ := m.tabs q hq
    exact ⟨ps, by rw [ae (show q ≠ D from fun z => nt (by rw [← z]; exact hq))]; exact e, t⟩
  · by_cases ha : a = D
    · exact hD (ha ▸ z)
    · rw [bC ha] at e
      exact m.apart a o e (List.mem_cons_of_mem _ z)
  · exact (m.lams q hq).keep (fun _ e => by rw [ae (fun z => by subst z; rw [eD] at e; cases e; cases nD)]; exact e) fun c _ _ e => by rw [ae (fun z => by subst z; rw [eD] at e; cases e; cases nD)]; exact e
end
section
variable {X : Cx} {pos : Pos}
noncomputable def E6 (tk tv : TE) : TE := fun σ H Q => ∀ p, H p = none → tk σ (upd H p (.dT [])) fun x H1 => tv σ H1 fun y H2 => H2 p = some (.dT []) ∧ ∃ b k, x = .ref b ∧ H2 b = some (.tup (k.map kV)) ∧ Q (.ref p) (upd H2 p (.dT [(k, y)]))
theorem Ae {k v : Expr} {tk tv : TE} (hu : X.A.units + 1 < cLine) (hk : PE X k tk) (hv : PE X v tv) : PE X (.Dict [some k] [v] pos) (E6 tk tv) := by
  refine ⟨?_⟩
  intro pins s σ H Q I q
  have hn := I.hok.fresh (Nat.le_refl s.heap.objs.size)
  have I1 := I.laid (a := s.heap.objs.size) (o := .dT []) (h' := s.heap.push { cls := .type "dict", data := .dict #[] }) (t' := s.toks) (fun _ _ q => Heap.get?_push_of_some _ q) (Nat.le_refl _) (t5 s.heap I.big)
  refine wpAny_Dict_any rfl rfl (by simp) (by simp) (pairTrees_cons_walk (thn (hk pins _ σ _ _ I1 (q _ hn)) fun w1 s2 ⟨x, H1, I2, rx, q1⟩ => thn (hv pins s2 σ H1 _ I2 q1) fun w2 s3 ⟨y, H2, I3, ry, hp, b, ks, ex, hb, q2⟩ => pairTrees_nil_walk ?_))
  subst ex
  cases (show w1 = Value.ref b from rx)
  unfold storeAll
  rw [List.forIn_cons]
  obtain ⟨z, hd, xs, rel, dd⟩ := DJ I3.hok hp
  cases rel
  refine wpAny_bind (wpAny_bind (wpAny_dictSet_heap (knd := tupleKind (bS X.prog X.w)) (by show X.A.units < cLine; omega) (mG I3.hok hb) dd (fun h' wk hs => wpAny_pure ?_) (by simp)))
  dsimp only
  rw [List.forIn_nil]
  refine wpAny_pure ⟨.ref s.heap.objs.size, _, ?_, rfl, q2⟩
  obtain ⟨o, es, ep, ho, h2, h3, h4, h5, h6⟩ := wk
  have he : storedH ([] : List (List Key × Addr × Value)) ks b w2 = [(ks, b, w2)] := rfl
  rw [he] at h4 h6
  refine ql I3 (by rw [hp]; exact True.intro) hs ⟨o, ho⟩ ⟨by show 1 ≤ sizeLine; decide, hd, [(ks, b, w2)], .cons ⟨rfl, ?_, ry⟩ .nil, o, es, ep, ho, h2, h3, h4, h6⟩
  rw [ae (wN hb hp (by intro z; cases z))]
  exact hb
end
section
variable {X : Cx} {Γ : Gz} {β : Bz} {K : PySem.W.Frag}
noncomputable def zDNewT : aT := fun _ M Q => ∀ a, M a = none → Q (.ptr a) (bK M a (.dt [] []))
theorem Cy {pos : Pos} : QE Γ X (.Dict [] [] pos) zDNewT := Cg.imp fun σ H Q ⟨β, ρ, M, Q', zr, h, q⟩ p hp =>
  q _ _ _ _ (Ex.HB (ks := []) (vs := []) (ds := []) zr.mz (.inr hp) rfl .nil) (.ptr (by rw [updM_same]; rfl)) (h p (zr.mz.free hp))
noncomputable def zDisp1K (pk pv : aT) : aT := fun ρ M Q => pk ρ M fun e M1 => pv ρ M1 fun v M2 => match keyD e with | some k => ∀ a, M2 a = none → Q (.ptr a) (bK M2 a (.dk [k] [v])) | none => False
noncomputable def zDisp1T (pk pv : aT) : aT := fun ρ M Q => pk ρ M fun e M1 => pv ρ M1 fun v M2 => match e with | .tup es => (match jX es with | some k => ∀ a, M2 a = none → Q (.ptr a) (bK M2 a (.dt [k] [v])) | none => False) | _ => False
theorem E7 {M M2 : Mh} {H H2 : Hp} {D : Addr} {o : HO} {o' : Mo} {u : HO} (hD : H D = none) (x : Ex (β.add D) M (upd H D o) M2 H2) (mz : Mz β (bK M2 D o') (upd H2 D u)) : Ex β M H (bK M2 D o') (upd H2 D u) := by
  have ey : Ey M H M2 (upd H2 D u) := ((Ey.refl (M := M) (H := H)).over (o := o) hD |>.trans x.toEy).over hD
  exact ⟨⟨ey.keep, fun a h => by unfold bK; split; rfl; exact ey.dom a h, fun a w m e => by rw [bC (av e hD)]; exact ey.new a w m e⟩, mz⟩
theorem Li {k v : Expr} {pk pv : aT} {pos : Pos} (hu : X.A.units + 64 < cLine) (hk : QE Γ X k pk) (hv : QE Γ X v pv) : QE Γ X (.Dict [some k] [v] pos) (zDisp1T pk pv) :=
  (Ae (by omega) hk hv).imp fun σ H Q ⟨β, ρ, M, Q', zr, h, q⟩ p hp => by
    have z1 := zr.enter hp (o := .dT []) rfl
    refine ⟨β.add p, ρ, M, _, z1, h, fun e M1 y H1 x1 r1 h1 => ⟨β.add p, ρ, M1, _, z1.step x1, h1, fun d M2 w H2 x2 r2 h2 => ?_⟩⟩
    have DU := x1.trans x2
    have Lj : M p = none := zr.mz.free hp
    have e2 : H2 p = some (.dT []) := DU.Ie List.mem_cons_self Lj aj rfl
    have Lk : M2 p = none := DU.new p _ Lj aj
    refine ⟨e2, ?_⟩
    split at h2
    · split at h2
      · rename_i es kk OS
        obtain ⟨b, us, rfl, _, hb, ru⟩ := cV (r1.ex x2)
        rw [k8 ru OS] at hb
        refine ⟨b, kk, rfl, hb, ?_⟩
        refine q _ _ _ _ (E7 (o' := .dt [kk] [d]) (u := .dT ([kk].zip [w])) hp DU (DU.mz.M8 Lk (zr.mz.fz hp).2 (zr.mz.Cj hp) rfl ⟨[w], aj, rfl, k9 (.cons r2 .nil)⟩)) (.ptr (by rw [updM_same]; rfl)) (h2 p Lk)
      · exact h2.elim
    · exact h2.elim
noncomputable def zDPut (pd pk pv : aT) : cO := fun D ρ M => pv ρ M fun v M1 => pd ρ M1 fun d M2 => pk ρ M2 fun e M3 => match d with
  | .ptr a => (match M3 a with
    | some (.dk ks ds) => (match keyD e with | some k => ks.length < sizeLine ∧ D.nx ρ (bK M3 a (.dk (putL ks k) (f9 ks ds k v))) | none => False)
    | some (.dt ks ds) => (match e with | .tup es => (match jX es with | some k => ks.length < sizeLine ∧ D.nx ρ (bK M3 a (.dt (putL ks k) (f9 ks ds k v))) | none => False) | _ => False)
    | _ => False)
  | _ => False
theorem E8 {o i value : Expr} {pd pk pv : aT} {pos pos' : Pos} (hu : X.A.units + 64 < cLine) (ho : QE Γ X o pd) (hi : QE Γ X i pk) (hv : QE Γ X value pv) (hs : swapsWith value (some (.Subscript o i pos')) pos.line X.env = pure false := by rfl) :
    QS Γ X (.Assign [.Subscript o i pos'] value pos) (zDPut pd pk pv) := (ER (by omega) ho hi hv hs).imp fun D σ H ⟨β, ρ, M, D', zr, h, r⟩ => ⟨β, ρ, M, _, zr, h, fun v M1 vv H1 x1 r1 h1 => ⟨β, ρ, M1, _, zr.step x1, h1, fun d M2 dv H2 x2 r2 h2 =>
      ⟨β, ρ, M2, _, (zr.step x1).step x2, h2, fun e M3 ev H3 x3 r3 h3 => by
  have z3 := ((zr.step x1).step x2).step x3
  have wq := x1.trans (x2.trans x3)
  have rv := (r1.ex x2).ex x3
  split at h3
  · rename_i a
    obtain ⟨rfl, hs⟩ := cX r2
    split at h3
    · rename_i ks ds hM
      obtain ⟨vs, ha, hk, rs⟩ := x3.mz.obj a _ hM
      split at h3
      · rename_i k uD
        obtain ⟨hl, h3⟩ := h3
        have hp : (M3 a).isSome = true := by rw [hM]; rfl
        have x4 : Ex β M3 H3 (bK M3 a (.dk (putL ks k) (f9 ks ds k v))) (upd H3 a (.dK ((putL ks k).zip (f9 ks vs k vv)))) := Ex.MZ x3.mz (.inl hp) (uz hk k vv) (uA k rv rs)
        refine ⟨a, _, rfl, .inl ⟨_, k, ha, qo r3 uD, by rw [List.length_zip, ← hk, Nat.min_self]; exact hl, rfl⟩, ?_⟩
        rw [wA hk]
        exact r.nx _ _ _ _ (wq.trans x4).ev (z3.step x4) h3
      · exact h3.elim
    · rename_i ks ds hM
      obtain ⟨vs, ha, hk, rs⟩ := x3.mz.obj a _ hM
      split at h3
      · split at h3
        · rename_i k uD
          obtain ⟨hl, h3⟩ := h3
          obtain ⟨b, us, rfl, _, hb, ru⟩ := cV r3
          rw [k8 ru uD] at hb
          have hp : (M3 a).isSome = true := by rw [hM]; rfl
          have x4 : Ex β M3 H3 (bK M3 a (.dt (putL ks k) (f9 ks ds k v))) (upd H3 a (.dT ((putL ks k).zip (f9 ks vs k vv)))) := Ex.HB x3.mz (.inl hp) (uz hk k vv) (uA k rv rs)
          refine ⟨a, _, rfl, .inr ⟨_, k, b, ha, rfl, hb, by rw [List.length_zip, ← hk, Nat.min_self]; exact hl, rfl⟩, ?_⟩
          rw [wA hk]
          exact r.nx _ _ _ _ (wq.trans x4).ev (z3.step x4) h3
        · exact h3.elim
      · exact h3.elim
    · exact h3.elim
  · exact h3.elim⟩⟩⟩
end
theorem Af {P : Program} {w : World} {K : PySem.W.Frag} {mg mb : Str → Option Value} {CX : j9} {k : Nat} {fa a : Addr} {fd : FuncData} {x : Str} {sp : Sp} {au : Shared} {vs : List Value} {ns : List Int} {tabs lts : List Addr}
    (KX : K.In au.heap) (jL : au.heap.Ns mainGlobals mg) (hb : au.heap.Ns builtinsNs mb) (OT : ∀ x : Str, x ≠ "__name__" → mb x = bootBuiltins x) (Ig : au.heap.NoLimit) (hg : au.gens = #[])
    (ha : au.heap.get? a = some { cls := .type "list", data := .seq vs.toArray }) (hi : IntsAre vs ns) (hl : ns.length ≤ sizeLine) (hr : bV k callerA)
    (jq : ∀ p ∈ tabs ++ lts, au.heap.get? p = some (PySem.W.tabObj #[]) ∧ isCodeTable au.heap p) (M9 : ∀ p ∈ tabs, p ∉ lts) (Ag : PySem.W.kb_classed K = true) (dh : ∃ bm ob, BMod au.heap mainGlobals mg bm ob)
    (F : ∀ base : Heap, K.In base → base.Ns mainGlobals mg → (∃ bm ob, BMod base mainGlobals mg bm ob) → (∀ c p, PySem.W.CodeHd au.heap c p → PySem.W.CodeHd base c p) → FnOk P w K mg base CX k fa fd [x] sp)
    (JU : ∀ (s : Shared) (u : Value), BindsTo s fd ⟨[u], []⟩ [(x, u)])
    (lC : ∀ H : Hp, (∀ p ∈ tabs, Tb p H) → (∀ p ∈ lts, H p = some (.lam #[])) → a8 K H a (ns.map V.int) → sp [.ref a] H (fun v H' => v = .bl true ∧ ∀ p ∈ lts, ∃ ps, H' p = some (.lam ps)) fun _ _ _ => False)
    (Ih : ∀ H e s', CX [] H au (fun _ _ _ => False) e s' → False) :
    codeAny (model P w) callerA (.call (.ref fa) ⟨[.ref a], []⟩) (fun r s' => r = .ok (.ret (.bool true)) ∧ OldK au.heap s'.heap ∧ s'.os = au.os ∧ AllBare s'.gens) au := by
  have rv := qR hi
  have Nb := hi.length
  have zg : a ∉ tabs ++ lts := fun z => by
    have e := (jq a z).1
    rw [ha] at e
    cases e
  have core : ∀ H : Hp, (∀ b u, H b = some u → (b = a ∧ ∃ o xs, u = .fm o (.lst xs)) ∨ (b ∈ tabs ++ lts ∧ (u = .cf #[] ∧ b ∈ tabs ∨ u = .lam #[] ∧ b ∈ lts))) → (∀ p ∈ tabs, H p = some (.cf #[])) → (∀ p ∈ lts, H p = some (.lam #[])) → a8 K H a (ns.map V.int) → cJ P w H au.heap → (H a ≠ none → K.lookup a = none) →
      codeAny (model P w) callerA (.call (.ref fa) ⟨[.ref a], []⟩) (fun r s' => r = .ok (.ret (.bool true)) ∧ OldK au.heap s'.heap ∧ s'.os = au.os ∧ AllBare s'.gens) au := by
    intro H hO OU OV hS hok hK
    have nG : ∀ {b : Addr} {o : Obj}, au.heap.get? b = some o → H b = none → (i5 au.heap H).get? b = some o := fun e n => Bg e n
    have no : ∀ {b : Addr} {o : Obj}, au.heap.get? b = some o → (∀ n, o.data ≠ .seq vs.toArray n) → o ≠ PySem.W.tabObj #[] → H b = none := fun {b o} e d1 d2 => by
      cases q : H b with
      | none => rfl
      | some u =>
        rcases hO b u q with ⟨e', _⟩ | ⟨fG, _⟩
        · subst e'
          rw [ha] at e; cases e
          exact absurd rfl (d1 _)
        · rw [(jq b fG).1] at e
          exact absurd (Option.some.inj e).symm d2
    have OW : ∀ {b : Addr} {o : Obj} {es : Array DictEntry} {ep : Nat}, au.heap.get? b = some o → o.data = .dict es ep → H b = none := fun {b o es ep} e d => no e (fun n z => by rw [d] at z; cases z) fun z => by rw [z] at d; cases d
    have Ah : ∀ {b : Addr} {m : Str → Option Value}, au.heap.Ns b m → (i5 au.heap H).Ns b m := fun {b m} hS => by obtain ⟨o, es, ep, e, d, r⟩ := hS; exact ⟨o, es, ep, nG e (OW e d), d, r⟩
    have Ln : K.In (i5 au.heap H) := fun b o e => nG (KX b o e) (by
      cases q : H b with
      | none => rfl
      | some u =>
        rcases hO b u q with ⟨e', _⟩ | ⟨fG, _⟩
        · subst e'
          rw [hK (by rw [q]; simp)] at e; cases e
        · have e1 := KX b o e
          have e2 := (jq b fG).1
          rw [e1] at e2
          have e3 : o = PySem.W.tabObj #[] := Option.some.inj e2
          have q2 := List.all_eq_true.mp Ag (b, o) (PySem.W.kb_mem e)
          simp only [Bool.or_eq_true, decide_eq_true_eq, beq_iff_eq] at q2
          rcases q2 with (q2 | q2) | q2
          · rw [e3] at q2; exact absurd rfl q2
          · obtain ⟨mc, ⟨oc, es, ep, ho, hd, _⟩, _⟩ := Ig
            rw [← q2, e1] at ho
            cases ho
            rw [e3] at hd; cases hd
          · obtain ⟨oc, es, ep, ho, hd, _⟩ := id jL
            rw [← q2, e1] at ho
            cases ho
            rw [e3] at hd; cases hd)
    have hM : Mod K mg (i5 au.heap H) := ⟨Ln, Ah jL, ⟨mb, Ah hb, OT⟩, let ⟨mc, h1, h2⟩ := Ig; ⟨mc, Ah h1, h2⟩⟩
    have hB : ∃ bm ob, BMod (i5 au.heap H) mainGlobals mg bm ob := by
      obtain ⟨bm, ob, B⟩ := dh
      exact ⟨bm, ob, Ah B.ns, B.name, B.ne, nG B.obj (no B.obj (fun n z => by rw [B.data] at z; cases z) fun z => by have := B.data; rw [z] at this; cases this), B.cls, B.dict, B.data⟩
    have hC : ∀ c p, PySem.W.CodeHd au.heap c p → PySem.W.CodeHd (i5 au.heap H) c p := fun c p ⟨o, zR, file, tf, flags, tg, OX, text, tt, e1, e2, e3, r⟩ =>
      ⟨o, zR, file, tf, flags, tg, OX, text, tt, nG e1 (no e1 (fun n z => by rw [e3] at z; cases z) fun z => by rw [z] at e2; cases e2), e2, e3, r⟩
    have e0 : w5 P w K mg (i5 au.heap H) callerA [] au H := ⟨rfl, hM, fun b o e => Ed e, Nat.le_of_eq (yC _ _), trivial, fun b hb => absurd (show b ∈ ([] : List Addr) from hb) (by simp), hok, .of_eq hg⟩
    refine codeAny_mono ((F _ Ln (Ah jL) hB hC).run callerA [] au H ⟨[.ref a], []⟩ [.ref a] [.ref a] _ _ hr e0 (JU au (.ref a)) (.cons rfl .nil) (lC H (fun p hp => ⟨#[], OU p hp, trivial⟩) OV hS)) fun r s' h => ?_
    cases r with
    | error e => exact (Ih H e s' h).elim
    | ok fl =>
      cases fl with
      | next => exact False.elim h
      | brk => exact False.elim h
      | cont => exact False.elim h
      | ret u =>
        obtain ⟨v, H', os, bare, un, Cz, r', q⟩ := h
        obtain ⟨q', qL⟩ := q
        subst q'
        obtain rfl : u = Value.bool true := r'
        have all : ∀ b o, au.heap.get? b = some o → asItWas au.heap s'.heap b o ∧ ∃ o', s'.heap.get? b = some o' := fun b o e => by
          cases q : H b with
          | none =>
            have := un.keep b o e q (by intro z; exact absurd (show b ∈ ([] : List Addr) from z) (by simp)) (by simp)
            exact ⟨.inl this, _, this⟩
          | some u =>
            rcases hO b u q with ⟨_, ob, xs, z⟩ | ⟨fG, z⟩
            · subst z
              have z2 := un.frzs b ob _ q
              obtain ⟨e1, _⟩ := hok b _ q
              obtain ⟨e2, _⟩ := Cz b _ z2
              rw [e] at e1; cases e1
              exact ⟨.inl e2, _, e2⟩
            · have e2 : ∃ more, s'.heap.get? b = some { cls := .none, data := .fields (#[] ++ more) } := by
                rcases z with ⟨z, _⟩ | ⟨z, nR⟩
                · subst z
                  obtain ⟨more, z2⟩ := un.tbls b #[] q
                  exact ⟨more, Cz b _ z2⟩
                · obtain ⟨ps, z2⟩ := qL b nR
                  refine ⟨ps, ?_⟩
                  have := Cz b _ z2
                  rw [show (#[] : Array Value) ++ ps = ps by simp]
                  exact this
              obtain ⟨more, e2⟩ := e2
              have e1 := (jq b fG).1
              rw [e] at e1
              obtain rfl : o = PySem.W.tabObj #[] := Option.some.inj e1
              exact ⟨.inr (.inl ⟨(jq b fG).2, rfl, #[], more, rfl, e2⟩), _, e2⟩
        exact ⟨rfl, ⟨fun b o e => (all b o e).1, fun b o e => (all b o e).2⟩, os, bare.1⟩
  have Ii : ∀ p ∈ tabs ++ lts, ∀ H : Hp, ∀ u, (u = .cf #[] ∧ p ∈ tabs ∨ u = .lam #[] ∧ p ∈ lts) → ObjOk P w H au.heap p u := fun p hp H u hu => by
    rcases hu with ⟨rfl, _⟩ | ⟨rfl, _⟩ <;> exact (jq p hp).1
  let T : Hp := fun b => if b ∈ lts then some (.lam #[]) else if b ∈ tabs then some (.cf #[]) else none
  have T1 : ∀ b u, T b = some u → b ∈ tabs ++ lts ∧ (u = .cf #[] ∧ b ∈ tabs ∨ u = .lam #[] ∧ b ∈ lts) := fun b u z => by
    by_cases h1 : b ∈ lts
    · have z' := (show T b = _ from if_pos h1).symm.trans z
      cases z'
      exact ⟨List.mem_append_right _ h1, .inr ⟨rfl, h1⟩⟩
    · by_cases h2 : b ∈ tabs
      · have z' := (show T b = _ from (if_neg h1).trans (if_pos h2)).symm.trans z
        cases z'
        exact ⟨List.mem_append_left _ h2, .inl ⟨rfl, h2⟩⟩
      · have z' := (show T b = _ from (if_neg h1).trans (if_neg h2)).symm.trans z
        cases z'
  have T2 : ∀ p ∈ tabs, T p = some (.cf #[]) := fun p hp => (if_neg (M9 p hp)).trans (if_pos hp)
  have T3 : ∀ p ∈ lts, T p = some (.lam #[]) := fun p hp => if_pos hp
  have Ta : T a = none := (if_neg fun z => zg (List.mem_append_right _ z)).trans (if_neg fun z => zg (List.mem_append_left _ z))
  cases hk : K.lookup a with
  | some o =>
    have e := KX a o hk
    rw [ha] at e
    cases e
    exact core T (fun b u z => .inr (T1 b u z)) T2 T3 (.inr ⟨_, vs.toArray, _, hk, rfl, rfl, rfl, by rw [List.size_toArray, Nb]; exact hl, by simpa using rv⟩) (fun b u z => Ii b (T1 b u z).1 _ u (T1 b u z).2) fun z => absurd Ta z
  | none =>
    have na : ∀ p ∈ tabs ++ lts, p ≠ a := fun p hp z => zg (z ▸ hp)
    refine core (upd T a (.fm { cls := .type "list", data := .seq vs.toArray } (.lst (ns.map V.int)))) (fun b u z => ?_) (fun p hp => by rw [ae (na p (List.mem_append_left _ hp))]; exact T2 p hp) (fun p hp => by rw [ae (na p (List.mem_append_right _ hp))]; exact T3 p hp) (.inl (.inr ⟨_, aj⟩)) (fun b u z => ?_) fun _ => hk
    · by_cases hb : b = a
      · subst hb
        rw [aj] at z
        cases z
        exact .inl ⟨rfl, _, _, rfl⟩
      · rw [ae hb] at z
        exact .inr (T1 b u z)
    · by_cases hb : b = a
      · subst hb
        rw [aj] at z
        cases z
        exact ⟨ha, by rw [List.length_map]; exact hl, vs, _, rv, ha⟩
      · rw [ae hb] at z
        exact Ii b (T1 b u z).1 _ u (T1 b u z).2
noncomputable def sF (K : PySem.W.Frag) (x : Str) : Option Addr := match PySem.W.nsIn K mainGlobals x with
  | some (some (.ref f)) => (match K.lookup f with
    | some ⟨_, _, .func fd, _⟩ => (match fd.code with
      | .ref c => (match K.lookup c with
        | some ⟨_, _, .fields vs, _⟩ => (match vs[11]? with | some (Value.ref p) => some p | _ => none)
        | _ => none)
      | _ => none)
    | _ => none)
  | _ => none
noncomputable abbrev TabOf (mg : Str → Option Value) (h : Heap) (y : Str) (p : Addr) : Prop := ∃ f o fd c, mg y = some (.ref f) ∧ h.get? f = some o ∧ o.data = .func fd ∧ fd.code = .ref c ∧ PySem.W.CodeHd h c p
theorem uE {K : PySem.W.Frag} {mg : Str → Option Value} {h : Heap} {y : Str} {p q : Addr} (X : K.In h) (G : h.Ns mainGlobals mg) (t : TabOf mg h y p) (e : sF K y = some q) : p = q := by
  obtain ⟨f, o, fd, c, e1, e2, e3, e4, oc, vs, _, _, _, _, _, _, _, g1, _, g3, g4, _⟩ := t
  unfold sF at e
  split at e
  · rename_i f' jL
    have := (PySem.W.mg_of X G jL).symm.trans e1
    cases this
    split at e
    · rename_i Qi Qj N3 Ks OY
      have := (X _ _ OY).symm.trans e2
      cases this
      cases e3
      rw [e4] at e
      dsimp only at e
      split at e
      · rename_i a1 a2 zR a3 OZ
        have := (X _ _ OZ).symm.trans g1
        cases this
        cases g3
        rw [g4] at e
        cases e
        rfl
      · cases e
    · cases e
  · cases e
noncomputable def qp (K : PySem.W.Frag) (gs ls : List Str) : Bool := gs.all fun x => ls.all fun y => match sF K x, sF K y with | some p, some q => decide (p ≠ q) | _, _ => false
theorem wD {α β : Type} {F : α → β → Prop} {l : List α} {m : List β} (h : Paired F l m) {b : β} (hb : b ∈ m) : ∃ a ∈ l, F a b := by
  induction h with
  | nil => simp at hb
  | cons x t ih =>
    rcases List.mem_cons.mp hb with e | e
    · subst e; exact ⟨_, List.mem_cons_self, x⟩
    · obtain ⟨a, ha, q⟩ := ih e
      exact ⟨a, List.mem_cons_of_mem _ ha, q⟩
theorem CA {K : PySem.W.Frag} {mg : Str → Option Value} {h : Heap} {gs ls : List Str} {tabs lts : List Addr} (X : K.In h) (G : h.Ns mainGlobals mg) (d : qp K gs ls = true) (t1 : Paired (TabOf mg h) gs tabs) (t2 : Paired (TabOf mg h) ls lts) : ∀ p ∈ tabs, p ∉ lts := fun p hp hq => by
  obtain ⟨x, hx, tx⟩ := wD t1 hp
  obtain ⟨y, hy, ty⟩ := wD t2 hq
  have := List.all_eq_true.mp (List.all_eq_true.mp d x hx) y hy
  split at this
  · rename_i p' q' e1 e2
    have a := uE X G tx e1
    have b := uE X G ty e2
    exact (of_decide_eq_true this) (a.symm.trans b)
  · cases this
theorem CB {l : PySem.W.OpenLaw} {n k : Nat} {q : Program} {loose : List Str} {XP : (Str → Option Value) → Heap → Prop} {YP : World → Heap → Prop} {d : DefRec} {K : Params → PySem.W.Frag} {CX : j9} {sp : PySem.W.Frag → List Addr → List Addr → Sp} {x : Str} {lF Ai : List Str}
    (hn : l.most = some n) (O0 : n ≤ sizeLine) (yW : d.params.defaults = []) (hr : bV k callerA) (Ag : ∀ w : World, PySem.W.kb_classed (K w.params) = true)
    (DV : ∀ y ∈ lF ++ Ai, ∃ r ∈ recsOf q, r.name = y) (nS : ∀ w : World, qp (K w.params) lF Ai = true)
    (hY : ∀ (w : World) (h : Heap), YP w h → (K w.params).In h)
    (F : ∀ (w : World) (mg : Str → Option Value) (fa : Addr) (h : Heap) (tabs lts : List Addr), (K w.params).In h → h.Ns mainGlobals mg → mg d.name = some (.ref fa) →
      Paired (TabOf mg h) lF tabs → Paired (TabOf mg h) Ai lts →
      ∃ fd : FuncData, (∀ (s : Shared) (u : Value), BindsTo s fd ⟨[u], []⟩ [(x, u)]) ∧
        ∀ base : Heap, (K w.params).In base → base.Ns mainGlobals mg → (∃ bm ob, BMod base mainGlobals mg bm ob) → (∀ c p, PySem.W.CodeHd h c p → PySem.W.CodeHd base c p) → FnOk l.prog w (K w.params) mg base CX k fa fd [x] (sp (K w.params) tabs lts))
    (lC : ∀ (K : PySem.W.Frag) (tabs lts : List Addr) (H : Hp) (a : Addr) (ns : List Int), lts.length = Ai.length → ns.length ≤ n → (∀ p ∈ tabs, Tb p H) → (∀ p ∈ lts, H p = some (.lam #[])) → a8 K H a (ns.map V.int) → sp K tabs lts [.ref a] H (fun v H' => v = .bl true ∧ ∀ p ∈ lts, ∃ ps, H' p = some (.lam ps)) fun _ _ _ => False)
    (Ih : ∀ (H : Hp) (s : Shared) (e : Value) (s' : Shared), CX [] H s (fun _ _ _ => False) e s' → False) :
    PySem.W.WalkO q loose XP YP l.row.toRowW d [] (fun f vs => PySem.call f vs) := by
  refine KG.u9 hn yW fun w s₀ au mg mb fa o pm cd doc a vs ns G Y ho hd fD yX BF hints hlen hg => ?_
  have KX := hY w _ Y
  have tb : ∀ lF : List Str, (∀ y ∈ lF, ∃ r ∈ recsOf q, r.name = y) → ∃ tabs, Paired (TabOf mg au.heap) lF tabs ∧ ∀ p ∈ tabs, au.heap.get? p = some (PySem.W.tabObj #[]) ∧ isCodeTable au.heap p := by
    intro lF
    induction lF with
    | nil => intro _; exact ⟨[], .nil, fun p hp => absurd hp (by simp)⟩
    | cons y r ih =>
      intro hm
      obtain ⟨tabs, h1, h2⟩ := ih fun z hz => hm z (List.mem_cons_of_mem _ hz)
      obtain ⟨rr, O1, e⟩ := hm y List.mem_cons_self
      obtain ⟨f, o', fd, c, p, a1, a2, a3, a4, a5, a6⟩ := G.T.tab rr O1
      rw [e] at a1
      refine ⟨p :: tabs, .cons ⟨f, o', fd, c, a1, a2, a3, a4, .of a5 a6⟩ h1, fun z hz => ?_⟩
      rcases List.mem_cons.mp hz with rfl | hz
      · exact ⟨a6.2, a6.isCodeTable⟩
      · exact h2 z hz
  obtain ⟨tabs, t1, t2⟩ := tb lF fun y hy => DV y (List.mem_append_left _ hy)
  obtain ⟨lts, u1, u2⟩ := tb Ai fun y hy => DV y (List.mem_append_right _ hy)
  obtain ⟨fd, hb, hF⟩ := F w mg fa _ tabs lts KX G.T.g yX t1 u1
  exact Af (lts := lts) KX G.T.g G.T.b G.T.builtins G.T.nolimit hg BF hints (Nat.le_trans hlen O0) hr (fun p hp => (List.mem_append.mp hp).elim (t2 p) (u2 p)) (CA KX G.T.g (nS w) t1 u1) (Ag w) (PySem.W.bmod_of_top G.T) hF hb (fun H hO hL hS => lC _ tabs lts H a ns (Paired.length u1).symm hlen hO hL hS) fun H e s' => Ih H au e s'
theorem CC {K : PySem.W.Frag} {tabs lts : List Addr} {qs : List Str} {H : Hp} {a : Addr} {ns : List Int} (hl : lts.length = qs.length) (hn : ns.length ≤ 63) (hT : ∀ p ∈ tabs, Tb p H) (hL : ∀ p ∈ lts, H p = some (.lam #[])) (hS : a8 K H a (ns.map V.int)) :
    spLaw K ⟨tabs, lts.zip qs⟩ [.ref a] H (fun v H' => v = .bl true ∧ ∀ p ∈ lts, ∃ ps, H' p = some (.lam ps)) fun _ _ _ => False :=
  ⟨a, ns, rfl, hS, hn, hT, fun p hp => ⟨#[], hL p.1 (List.of_mem_zip hp).1, trivial, fun pos cv e => nomatch e⟩, fun H' h => ⟨rfl, fun p hp => by
    obtain ⟨i, hi⟩ := List.mem_iff_getElem?.mp hp
    have h1 := (List.getElem?_eq_some_iff.mp hi).1
    exact h (p, qs[i]) (List.mem_of_getElem? (i := i) (List.getElem?_zip_eq_some.mpr ⟨hi, List.getElem?_eq_getElem (by omega)⟩))⟩⟩
noncomputable def JV (es : Array DictEntry) (ps : List (V × V)) : Prop := es.size = ps.length ∧ ∀ (i : Nat) (p : V × V), ps[i]? = some p → ∃ hi : i < es.size, RelV p.1 es[i].key ∧ RelV p.2 es[i].val
inductive CD (H : Hp) : HO → List (V × V) → Prop where
  | k (ao : List (Key × V)) : CD H (.dK ao) (ao.map fun kv => (kV kv.1, kv.2))
  | t (ao : List (List Key × V)) (bs : List Addr) (hl : bs.length = ao.length) (h : ∀ (i : Nat) (b : Addr) (kv : List Key × V), bs[i]? = some b → ao[i]? = some kv → H b = some (.tup (kv.1.map kV))) : CD H (.dT ao) ((bs.map V.ref).zip (ao.map (·.2)))
theorem CF {P : Program} {w : World} {k : Key} {u : Value} (h : (bS P w).is k u = true) : RelV (kV k) u := by
  rcases cn (k := k) (v := u) h with ⟨i, t, rfl, rfl⟩ | ⟨x, t, rfl, rfl⟩
  · exact ⟨t, rfl⟩
  · exact ⟨t, rfl⟩
theorem jY {α β : Type} {F : α → β → Prop} : ∀ {l : List α} {m : List β} {i : Nat} {a : α}, Paired F l m → l[i]? = some a → ∃ b, m[i]? = some b ∧ F a b
  | _, _, _, _, .nil, h => by simp at h
  | _, _, 0, _, .cons x _, h => by simp at h; subst h; exact ⟨_, rfl, x⟩
  | _, _, i + 1, _, .cons _ t, h => by obtain ⟨b, e, q⟩ := jY (i := i) t (by simpa using h); exact ⟨b, by simpa using e, q⟩
section
variable {P : Program} {w : World} {H : Hp} {h : Heap} {a : Addr} {u : HO}
structure Rows (H : Hp) (h : Heap) (a : Addr) (u : HO) (o : Obj) (es : Array DictEntry) (ep : Nat) (ps : List (V × V)) : Prop where
  obj : h.get? a = some o
  cls : o.cls = .type "dict"
  dict : o.dict = none
  data : o.data = .dict es ep
  lo : (a == sysModules) = false
  rel : JV es ps
  ps : CD H u ps
theorem E9 (ok : cJ P w H h) (e : Rd H a u) (hu : t6 u = true) : ∃ o es ep ps, Rows H h a u o es ep ps := by
  have q := e.ok ok
  cases u with
  | dK ao =>
    obtain ⟨z, lo, vs, rel, o, es, ep, g, x, dt, hk, hp, hn⟩ := q
    refine ⟨o, es, ep, _, g, x.1, x.2.1, dt, lo, ⟨?_, fun i p hi => ?_⟩, .k ao⟩
    · have h1 := hp.length
      have h2 := rel.length
      simp only [List.length_map, Array.length_toList] at h1 ⊢
      omega
    · rw [List.getElem?_map, Option.map_eq_some_iff] at hi
      obtain ⟨kv, Aj, rfl⟩ := hi
      obtain ⟨⟨k', v'⟩, hv, e1, e2⟩ := jY rel Aj
      have hl : i < es.size := by
        have h1 := hp.length
        have h2 := (List.getElem?_eq_some_iff.mp hv).1
        simp only [Array.length_toList] at h1
        omega
      obtain ⟨a1, a2⟩ := hp.get? (e := es[i]) (by simp [hl]) hv
      refine ⟨hl, ?_, ?_⟩
      · rw [e1]; exact CF a1
      · rw [a2]; exact e2
  | dT ao =>
    obtain ⟨z, lo, xs, rel, o, es, ep, g, x, dt, he, hn⟩ := q
    have O2 : ao.length = xs.length := Paired.length rel
    have O3 : es.size = xs.length := by
      have := congrArg List.length he
      simpa using this
    refine ⟨o, es, ep, _, g, x.1, x.2.1, dt, lo, ⟨?_, fun i p hi => ?_⟩, .t ao (xs.map (·.2.1)) (by rw [List.length_map]; exact O2.symm) fun i b kv hb Aj => ?_⟩
    · simp only [List.length_zip, List.length_map]; omega
    · rw [List.getElem?_zip_eq_some, List.map_map, List.getElem?_map, List.getElem?_map, Option.map_eq_some_iff, Option.map_eq_some_iff] at hi
      obtain ⟨⟨x1, Ak, e1⟩, ⟨kv, Aj, e2⟩⟩ := hi
      obtain ⟨x2, pH, _, _, r⟩ := jY rel Aj
      rw [Ak] at pH
      cases pH
      have hl : i < es.size := by rw [O3]; exact (List.getElem?_eq_some_iff.mp Ak).1
      have Lp : es[i] = entryOfKey (tupleKind (bS P w)) x1 := by
        have : es.toList[i]? = some (entryOfKey (tupleKind (bS P w)) x1) := by rw [he, List.getElem?_map, Ak]; rfl
        rw [Array.getElem?_toList, Array.getElem?_eq_getElem hl] at this
        exact Option.some.inj this
      refine ⟨hl, ?_, ?_⟩
      · rw [Lp, ← e1]; rfl
      · rw [Lp, ← e2]; exact r
    · rw [List.getElem?_map, Option.map_eq_some_iff] at hb
      obtain ⟨x1, Ak, rfl⟩ := hb
      obtain ⟨x2, pH, e1, e2, _⟩ := jY rel Aj
      rw [Ak] at pH
      cases pH
      exact e2
  | _ => cases hu
end
end L2
namespace L2
open PySem PySem.Spec PySem.W PyProof.Rows
section
variable {X : Cx} {Γ : Gz} {K : PySem.W.Frag}
noncomputable def zRepT : dB := fun d e M Q => match d, e with | .tup ds, .int k => (ds ≠ [] ∧ 2 ≤ k ∧ k < 1000 ∧ ds.length * k.toNat ≤ 10000) ∧ Q (.tup (List.replicate k.toNat ds).flatten) M | _, _ => False
theorem bb.rep {β : Bz} {M : Mh} {H : Hp} {vs : List V} {ds : List Dv} (r : bb β M H vs ds) : ∀ k : Nat, bb β M H (List.replicate k vs).flatten (List.replicate k ds).flatten
  | 0 => ⟨rfl, fun i v d h => by simp at h⟩
  | k + 1 => by rw [List.replicate_succ, List.replicate_succ, List.flatten_cons, List.flatten_cons]; exact r.append (bb.rep r k)
noncomputable def zRepL : dB := fun d e M Q => match d, e with | .lst ds, .int k => (-(2 ^ 63) ≤ k ∧ k < 2 ^ 63 ∧ ds.length * k.toNat ≤ sizeLine) ∧ Q (.lst (List.replicate k.toNat ds).flatten) M | _, _ => False
theorem DW : eG Γ X (binaryOp .Mult) zRepL := ⟨_, yT, fun β x y d e M H Q Q' _ _ _ m rx ry z q => by
  unfold zRepL at z
  split at z
  · rename_i ds k
    obtain ⟨a, vs, rfl, f, ha, rs⟩ := ie rx
    obtain ⟨⟨z1, z2, z3⟩, z4⟩ := z
    refine ⟨a, _, vs, rfl, aG ry, ha, z1, z2, by rw [rs.len]; exact z3, fun p hp => ?_⟩
    have x2 := Ex.lay m hp (.lst (List.replicate k.toNat vs).flatten)
    exact q _ _ _ _ x2 (ki (m.fz hp) aj ((rs.rep _).ex x2)) z4
  · exact z.elim⟩
noncomputable def zCatLD : dB := fun d e M Q => match d, e with | .lst ds, .lst es => ds.length + es.length ≤ sizeLine ∧ Q (.lst (ds ++ es)) M | _, _ => False
theorem Al (hK : X.K = K) : eG Γ X (binaryOp .Add) zCatLD := ⟨_, GD, fun β x y d e M H Q Q' _ _ _ m rx ry z q => by
  unfold zCatLD at z
  split at z
  · obtain ⟨a, vs, rfl, f, ha, rs⟩ := ie rx
    obtain ⟨b, us, rfl, f2, hb, gM⟩ := ie ry
    refine ⟨a, b, vs, us, rfl, rfl, ha, hb, by rw [rs.len, gM.len]; exact z.1, fun p hp => ?_⟩
    have x2 := Ex.lay m hp (.lst (vs ++ us))
    exact q _ _ _ _ x2 (ki (m.fz hp) aj ((rs.append gM).ex x2)) z.2
  · exact z.elim⟩
noncomputable def zMulS : dB := fun d e M Q => match d, e with | .str z, .int n => MulOk z n ∧ Q (.str (Txt.mul z n)) M | _, _ => False
theorem Am : eG Γ X (binaryOp .Mult) zMulS := ⟨_, xj, fun β x y d e M H Q Q' _ _ _ m rx ry z q => by
  unfold zMulS at z
  split at z
  · exact ⟨_, _, bB rx, aG ry, z.1, q _ _ _ _ (.refl m) (.str _) z.2⟩
  · exact z.elim⟩
open Classical in
theorem CG {A : Around} {E : Value → Shared → Prop} {s : Shared} {P : Program} {w : World} {d : Addr} {o : Obj} {es : Array DictEntry} {ep : Nat} {Q : Value → Shared → Prop} (hd : (d == sysModules) = false) (ho : s.heap.get? d = some o) (hc : o.cls = .type "dict") (Nc : o.data = .dict es ep) (GF : (es.size : Int) < 2 ^ 63)
    (h : Q (.int es.size (s.toks + 1)) { s with toks := s.toks + 1 + 1 }) : wpAny (model P w) A (call (.builtin "len") [.ref d]) Q E s := by
  have mt : Meets (Builtin.«dict.__len__» ⟨[.ref d], []⟩) (fun _ R s' => s'.heap.get? d = some o ∧ R (.ok (.ret (.int es.size s'.toks))) { s' with toks := s'.toks + 1 }) := .of_wp fun P w A R s' ⟨hg, hR⟩ => by
    show wpAny _ _ (dictSize d >>= _) _ _ s'
    unfold dictSize
    exact wpAny_bind (wpAny_bind (wpAny_dictEntries hg Nc (wpAny_pure (wpAny_bind (wpAny_pendingCount_other hd (wpAny_ret_mkInt (by rw [Nat.add_zero]; exact hR)))))))
  exact call_len_meets ⟨_, ho, hc⟩ F.slot_dict_len F.entry_dict_len (F.args_dict_len_1 _) mt (by omega) (by omega) (fun _ q => ⟨ho, q⟩) h
noncomputable def zLenT (d : Dv) (M : Mh) (Q : ZK) : Prop := match nowK M d with | .dt ks _ => Q (.int ks.length) M | _ => False
theorem An : eJ Γ X (.builtin "len") (z1 zLenT) := ⟨fun xs H Q => ∃ a ao, xs = [.ref a] ∧ Rd H a (.dT ao) ∧ Q (.int ao.length) H, fun pins s σ H xs us Q I rs ⟨a, ao, e, ha, q⟩ => by
  subst e
  cases rs with
  | cons r1 rs =>
    cases rs
    cases r1
    obtain ⟨o, es, ep, ps, R⟩ := E9 I.hok ha rfl
    have hl := (pj I.hok ha).1
    have hp : ps.length = ao.length := by
      cases R.ps with
      | t _ bs hl h => simp only [List.length_zip, List.length_map]; omega
    have he : es.size = ao.length := R.rel.1.trans hp
    refine CG R.lo R.obj R.cls R.data (by rw [he]; rw [show sizeLine = 16777216 from rfl] at hl; omega) ⟨.int ao.length, H, I.tok _, ⟨_, by rw [he]⟩, q⟩, fun β xs ds M H Q Q' _ _ _ m rs z q => by
  unfold z1 at z
  split at z
  · obtain ⟨x, rfl, r⟩ := eB rs
    unfold zLenT at z
    split at z
    · rename_i ks ds hk
      obtain ⟨a, vs, rfl, ha, hk, _⟩ := (wB m r).2 _ _ hk
      refine ⟨a, _, rfl, ha, ?_⟩
      rw [List.length_zip, ← hk, Nat.min_self]
      exact q _ _ _ _ (.refl m) (.int _) z
    · exact z.elim
  · exact z.elim⟩
end
end L2
namespace L2
open PySem PySem.Spec PyProof.Rows
noncomputable def O4 (k : Nat) : Str := ⟨#[97 + k]⟩
theorem iQ (a b : Str) : (a ++ b).length = a.length + b.length := by
  show (a.cps ++ b.cps).size = a.cps.size + b.cps.size
  exact Array.size_append
section
variable {κ : Type} [DecidableEq κ]
theorem lL : ∀ (ks U : List κ), ks.Nodup → (∀ k ∈ ks, k ∈ U) → ks.length ≤ U.length
  | [], _, _, _ => Nat.zero_le _
  | k :: ks, U, nd, h => by
    have hn := List.nodup_cons.mp nd
    have hk := h k List.mem_cons_self
    have ih := lL ks (U.erase k) hn.2 fun x hx => (List.mem_erase_of_ne (fun e => hn.1 (by rw [← e]; exact hx))).mpr (h x (List.mem_cons_of_mem _ hx))
    rw [List.length_erase_of_mem hk] at ih
    have := List.length_pos_of_mem hk
    rw [List.length_cons]
    omega
noncomputable def Nf (step : κ → Nat → κ) (met : κ) (w : Str) (st : List κ × List Str) (a : Nat) : List κ × List Str := if step met a ∈ st.1 then st else (st.1 ++ [step met a], st.2 ++ [w ++ O4 a])
noncomputable def visit (step : κ → Nat → κ) (met : κ) (w : Str) (n : Nat) (st : List κ × List Str) : List κ × List Str := (List.range n).foldl (Nf step met w) st
noncomputable def Lq (step : κ → Nat → κ) (n most : Nat) : Nat → Nat → List κ × List Str → List κ × List Str
  | 0, _, st => st
  | fuel + 1, i, st => match st.1[i]?, st.2[i]? with
    | some met, some w => if st.1.length ≤ most then Lq step n most fuel (i + 1) (visit step met w n st) else st
    | _, _ => st
noncomputable def met (step : κ → Nat → κ) (n most N : Nat) (s : κ) : List κ × List Str := Lq step n most (N + 1) 0 ([s], [""])
theorem Fb {α : Type} {ks : List κ} {ds : List α} {k : κ} {d : α} (h : k ∉ ks) : putL ks k = ks ++ [k] ∧ f9 ks ds k d = ds ++ [d] := by
  unfold putL f9
  rw [if_neg h, if_neg h]
  exact ⟨rfl, rfl⟩
end
theorem Fc {k : Nat} (h : k < 3) : dO ("abc" : Str).cps.toList ((k : Nat) : Int) = some (97 + k) := by
  have : k = 0 ∨ k = 1 ∨ k = 2 := by omega
  rcases this with rfl | rfl | rfl <;> decide +kernel
noncomputable def JW (S : Nat → List Int) (i j : Nat) : Prop := j < i ∧ S i = S j ∧ ∀ a b, a < b → b < i → S a ≠ S b
noncomputable def gN (f : Nat → Nat) : Nat → Nat → Nat
  | 0, x => x
  | k + 1, x => f (gN f k x)
theorem wF (f : Nat → Nat) (a b x : Nat) : gN f (a + b) x = gN f a (gN f b x) := by
  induction a with
  | zero => rw [Nat.zero_add]; rfl
  | succ a ih => rw [Nat.succ_add]; show f _ = f _; rw [ih]
theorem pI {f : Nat → Nat} {n : Nat} (h : ∀ y, y < n → f y < n) {x : Nat} (hx : x < n) : ∀ k, gN f k x < n
  | 0 => hx
  | k + 1 => h _ (pI h hx k)
theorem xQ {f : Nat → Nat} {n x : Nat} (hn : n ≤ 9) (h : ∀ y, y < n → f y < n) (hx : x < n) : ∃ a b, a < b ∧ b ≤ 9 ∧ gN f a x = gN f b x := by
  refine Classical.byContradiction fun O5 => ?_
  have nd : ((List.range 10).map fun k => gN f k x).Nodup := by
    refine List.pairwise_map.mpr (List.Pairwise.imp_of_mem (fun {a b} ha hb bo e => ?_) (List.pairwise_lt_range (n := 10)))
    exact O5 ⟨a, b, bo, by have := List.mem_range.mp hb; omega, e⟩
  have := lL _ (List.range n) nd fun k hk => by
    obtain ⟨j, _, rfl⟩ := List.mem_map.mp hk
    exact List.mem_range.mpr (pI h hx j)
  rw [List.length_map, List.length_range, List.length_range] at this
  omega
theorem Ao {f : Nat → Nat} {n x : Nat} (hn : n ≤ 9) (h : ∀ y, y < n → f y < n) (hx : x < n) : gN f 2529 x = gN f 9 x := by
  obtain ⟨a, b, pf, hb, e⟩ := xQ hn h hx
  have step : ∀ k, gN f (k + (b - a) + a) x = gN f (k + a) x := fun k => by
    rw [show k + (b - a) + a = k + b by omega, wF, wF, e]
  have many : ∀ m, gN f (9 + m * (b - a)) x = gN f 9 x := fun m => by
    induction m with
    | zero => rw [Nat.zero_mul]
    | succ m ih =>
      rw [Nat.succ_mul]
      have := step (9 - a + m * (b - a))
      rw [show 9 + (m * (b - a) + (b - a)) = 9 - a + m * (b - a) + (b - a) + a by omega, this, show 9 - a + m * (b - a) + a = 9 + m * (b - a) by omega]
      exact ih
  obtain ⟨p, hp⟩ : ∃ p, p = b - a := ⟨_, rfl⟩
  rw [← hp] at many
  · · have : p = 1 ∨ p = 2 ∨ p = 3 ∨ p = 4 ∨ p = 5 ∨ p = 6 ∨ p = 7 ∨ p = 8 ∨ p = 9 := by omega
      rcases this with rfl | rfl | rfl | rfl | rfl | rfl | rfl | rfl | rfl
      · exact many 2520
      · exact many 1260
      · exact many 840
      · exact many 630
      · exact many 504
      · exact many 420
      · exact many 360
      · exact many 315
      · exact many 280
noncomputable def cP (once : List Int) (p : Int) : Int := once.getD p.toNat 0
noncomputable def cj (once : List Int) : Nat → List Int
  | 0 => bg once.length
  | k + 1 => (cj once k).map (cP once)
noncomputable def kr (once : List Int) : Prop := ∀ v ∈ once, 0 ≤ v ∧ v < (once.length : Nat)
theorem jB {once : List Int} (o : kr once) {p : Int} (h0 : 0 ≤ p) (h1 : p < (once.length : Nat)) : (0 ≤ cP once p ∧ cP once p < (once.length : Nat)) ∧ once[p.toNat]? = some (cP once p) := by
  have hp : p.toNat < once.length := by omega
  have e : cP once p = once[p.toNat] := by unfold cP; rw [List.getD_eq_getElem?_getD, List.getElem?_eq_getElem hp]; rfl
  rw [e]
  exact ⟨o _ (List.getElem_mem hp), List.getElem?_eq_getElem hp⟩
theorem nI {once : List Int} (o : kr once) : ∀ k, cj once k = (List.range once.length).map fun x => ((gN (fun y => (cP once (y : Nat)).toNat) k x : Nat) : Int)
  | 0 => rfl
  | k + 1 => by
    rw [cj, nI o k, List.map_map]
    refine List.map_congr_left fun x hx => ?_
    have lt := pI (f := fun y => (cP once (y : Nat)).toNat) (n := once.length) (fun y hy => by have := (jB o (p := (y : Nat)) (by omega) (by omega)).1; show (cP once (y : Nat)).toNat < _; omega) (List.mem_range.mp hx) k
    have q := (jB o (p := (gN (fun y => (cP once (y : Nat)).toNat) k x : Nat)) (by omega) (by omega)).1
    show cP once (gN (fun y => (cP once (y : Nat)).toNat) k x : Nat) = (((cP once (gN (fun y => (cP once (y : Nat)).toNat) k x : Nat)).toNat : Nat) : Int)
    omega
theorem uF (once : List Int) : ∀ k, (cj once k).length = once.length
  | 0 => by show (bg _).length = _; simp [bg]
  | k + 1 => by rw [cj, List.length_map]; exact uF once k
theorem Fd {once : List Int} (o : kr once) (k : Nat) : ∀ p ∈ cj once k, 0 ≤ p ∧ p < (once.length : Nat) := fun p hp => by
  rw [nI o k] at hp
  obtain ⟨x, hx, rfl⟩ := List.mem_map.mp hp
  have lt := pI (f := fun y => (cP once (y : Nat)).toNat) (n := once.length) (fun y hy => by have := (jB o (p := (y : Nat)) (by omega) (by omega)).1; show (cP once (y : Nat)).toNat < _; omega) (List.mem_range.mp hx) k
  omega
theorem pJ {once : List Int} (o : kr once) (hn : once.length ≤ 9) {i : Nat} (h : ∀ a b, a < b → b < i → cj once a ≠ cj once b) : i ≤ 2529 := by
  rcases Nat.lt_or_ge 2529 i with q | q
  · refine absurd ?_ (h 9 2529 (by decide) q)
    rw [nI o, nI o]
    refine List.map_congr_left fun x hx => ?_
    rw [Ao hn (fun y hy => by have := (jB o (p := (y : Nat)) (by omega) (by omega)).1; show (cP once (y : Nat)).toNat < _; omega) (List.mem_range.mp hx)]
  · exact q
section
variable {κ α : Type} [DecidableEq κ]
theorem look_atG : ∀ {ks : List κ} {ws : List α} {i : Nat} {k : κ} {w : α}, ks.Nodup → ks[i]? = some k → ws[i]? = some w → look ks ws k = some w
  | [], _, _, _, _, _, h, _ => by simp at h
  | _ :: _, [], _, _, _, _, _, h => by simp at h
  | k0 :: ks, w0 :: ws, 0, k, w, nd, h1, h2 => by
    simp at h1 h2; subst h1 h2
    unfold look; rw [if_pos rfl]
  | k0 :: ks, w0 :: ws, i + 1, k, w, nd, h1, h2 => by
    have hn := List.nodup_cons.mp nd
    have h1 : ks[i]? = some k := by simpa using h1
    have h2 : ws[i]? = some w := by simpa using h2
    unfold look
    rw [if_neg (fun e => hn.1 (by rw [e]; exact List.mem_of_getElem? h1))]
    exact look_atG hn.2 h1 h2
theorem xR {ks : List κ} {ws : List α} (h : ks.length = ws.length) (x : κ) : (look ks ws x).isSome = decide (x ∈ ks) := by
  have := jW (x := x) h
  cases e : look ks ws x with
  | none => rw [decide_eq_false (this.mp e)]; rfl
  | some d => rw [decide_eq_true (Classical.byContradiction fun q => by rw [this.mpr q] at e; cases e)]; rfl
end
noncomputable def fQ (S : Nat → List Int) (i : Nat) : List (List Key) := (List.range i).map fun k => (S k).map Sum.inl
noncomputable def g5 (i : Nat) : List Dv := (List.range i).map fun k => Dv.int (k : Nat)
theorem oy : ∀ (a b : List Int), a.map (Sum.inl : Int → Key) = b.map Sum.inl → a = b
  | [], [], _ => rfl
  | [], _ :: _, h => by cases h
  | _ :: _, [], h => by cases h
  | x :: a, y :: b, h => by
    rw [List.map_cons, List.map_cons] at h
    injection h with h1 h2
    injection h1 with h1
    rw [h1, oy a b h2]
theorem vo {S : Nat → List Int} {i : Nat} (h : ∀ a b, a < b → b < i → S a ≠ S b) : (fQ S i).Nodup := by
  refine List.pairwise_map.mpr (List.Pairwise.imp_of_mem (fun {a b} ha hb bo e => ?_) (List.pairwise_lt_range (n := i)))
  exact h a b bo (List.mem_range.mp hb) (oy _ _ e)
theorem rG (S : Nat → List Int) (i : Nat) : (fQ S i).length = i := by simp [fQ]
theorem Ap (i : Nat) : (g5 i).length = i := by simp [g5]
theorem xS (S : Nat → List Int) (i : Nat) : fQ S (i + 1) = fQ S i ++ [(S i).map Sum.inl] := by simp [fQ, List.range_succ]
theorem xT (i : Nat) : g5 (i + 1) = g5 i ++ [Dv.int (i : Nat)] := by simp [g5, List.range_succ]
theorem mR {S : Nat → List Int} {i : Nat} {l : List Int} : l.map Sum.inl ∈ fQ S i ↔ ∃ j, j < i ∧ S j = l := by
  constructor
  · intro h
    obtain ⟨j, hj, e⟩ := List.mem_map.mp h
    exact ⟨j, List.mem_range.mp hj, oy _ _ e⟩
  · rintro ⟨j, hj, rfl⟩
    exact List.mem_map.mpr ⟨j, List.mem_range.mpr hj, rfl⟩
theorem xU {S : Nat → List Int} {i j : Nat} (h : ∀ a b, a < b → b < i → S a ≠ S b) (hj : j < i) : look (fQ S i) (g5 i) ((S j).map Sum.inl) = some (.int (j : Nat)) :=
  look_atG (vo h) (i := j) (by simp [fQ, hj]) (by simp [g5, hj])
end L2
open PySem L2 PyProof.Rows
local macro_rules | `(tactic| simp! only [$xs,*] $[$l]?) => `(tactic| simp only [zVar, zC, zOp, zII, zIC, zEq, zNe, scalZ, zIsN, isNonD, zSS, zTest, zBool, zChain, zOr, zNot, zAndV, zNotV, zNil, zCons, zTup, zLst, zCB, z1, zLenD, z2I, zInt, zList, zTuple, zSorted, zSet, zLenS, intsM, itemsM, zIsInst, isD, zBM, tyZ, zIndexS, zNext, zSeq, zDrop, zRet, zIfS, zgName, zAsg, zFor, zForM, zComp, zTupG, zAll, zSetC, zBlock, zCall, zTry, zRaise, zIsE, zstart, zEndsOf, ziTup, ziStr, ziRng1, zoNone, zoSome, zSl, zSlT, zSlS, zIx, zRangeT, zNeg, zCatT, zNoIf, zGetR, zDIn, lookD, nowK, keyD, zDNewT, zDisp1K, zDisp1T, zDPut, zLenT, zRepT, zRepL, zCatLD, zMulS, List.getElem?_cons_zero, List.getElem?_cons_succ, List.map_cons, List.map_nil, List.nil_append, List.cons_append, List.length_cons, List.length_nil, List.replicate_succ, List.replicate_zero, List.set_cons_zero, List.set_cons_succ, Option.join_some, Nat.reduceAdd, Nat.reduceSub, Nat.sub_self, Nat.zero_add, if_true, if_false, Bool.false_eq_true, Bool.not_true, Bool.not_false, true_and, and_true, beq_self_eq_true, String.reduceBEq, zLoop, List.length_map, List.length_set, updM_same, List.append_nil, Int.zero_add, Int.toNat_natCast, rangeD_len, Nat.min_self, atI_zero, decide_true, decide_false, Bool.not_eq_true, bne_self_eq_false, $xs,*] $[$l]?)
local macro_rules | `(tactic| dsimp! only [$xs,*] $[$l]?) => `(tactic| simp only [zVar, zC, zOp, zII, zIC, zEq, zNe, scalZ, zIsN, isNonD, zSS, zTest, zBool, zChain, zOr, zNot, zAndV, zNotV, zNil, zCons, zTup, zLst, zCB, z1, zLenD, z2I, zInt, zList, zTuple, zSorted, zSet, zLenS, intsM, itemsM, zIsInst, isD, zBM, tyZ, zIndexS, zNext, zSeq, zDrop, zRet, zIfS, zgName, zAsg, zFor, zForM, zComp, zTupG, zAll, zSetC, zBlock, zCall, zTry, zRaise, zIsE, zstart, zEndsOf, ziTup, ziStr, ziRng1, zoNone, zoSome, zSl, zSlT, zSlS, zIx, zRangeT, zNeg, zCatT, zNoIf, zGetR, zDIn, lookD, nowK, keyD, zDNewT, zDisp1K, zDisp1T, zDPut, zLenT, zRepT, zRepL, zCatLD, zMulS, List.getElem?_cons_zero, List.getElem?_cons_succ, List.map_cons, List.map_nil, List.nil_append, List.cons_append, List.length_cons, List.length_nil, List.replicate_succ, List.replicate_zero, List.set_cons_zero, List.set_cons_succ, Option.join_some, Nat.reduceAdd, Nat.reduceSub, Nat.sub_self, Nat.zero_add, if_true, if_false, Bool.false_eq_true, Bool.not_true, Bool.not_false, true_and, and_true, beq_self_eq_true, String.reduceBEq, List.length_map, List.length_set, updM_same, List.append_nil, Int.zero_add, Int.toNat_natCast, rangeD_len, Nat.min_self, atI_zero, decide_true, decide_false, Bool.not_eq_true, bne_self_eq_false, $xs,*] $[$l]?)
namespace My
open PySem L2 PyProof.Rows
noncomputable def top (i : Nat) : Stmt := PySem.Challenge.pw_roadcall_k21_no_sets_and_no_words.main.body.getD i (.Pass ⟨0, 0, 0, 0⟩)
noncomputable abbrev dw : Stmt := top 10
noncomputable abbrev b9 : Stmt := top 11
noncomputable abbrev jC : Stmt := top 16
noncomputable abbrev jD : Stmt := top 17
noncomputable abbrev fc : Stmt := top 18
noncomputable abbrev iR : Stmt := top 19
noncomputable abbrev gD : Stmt := top 20
noncomputable abbrev iS : Stmt := top 21
noncomputable abbrev ip : Stmt := top 22
noncomputable abbrev fL : Stmt := top 23
noncomputable abbrev jE : Stmt := top 25
noncomputable abbrev jF : Stmt := top 27
noncomputable abbrev iT : Stmt := top 28
noncomputable abbrev ku : Stmt := top 29
noncomputable abbrev gb : Stmt := top 30
noncomputable abbrev pK : Stmt := top 31
noncomputable abbrev ef : Stmt := top 32
noncomputable abbrev iU : Stmt := top 34
noncomputable abbrev cI : Stmt := top 35
noncomputable abbrev gE : Stmt := top 36
noncomputable abbrev dX : Stmt := top 37
noncomputable abbrev g6 : Stmt := top 38
noncomputable abbrev eh : Stmt := top 39
noncomputable abbrev fR : Stmt := top 40
noncomputable abbrev fS : Stmt := top 41
noncomputable abbrev pL : Stmt := top 42
section
variable {P : Program} {w : World} {K : PySem.W.Frag} {mg : Str → Option Value} {base : Heap} {tb : cU}
theorem vp : aJ ["thing"] ["thing"] (ak dw) := ⟨rfl, rfl, rfl, by decide +kernel, rfl, by decide +kernel, by decide +kernel⟩
theorem nJ : aJ ["thing", "many"] ["thing", "many"] (ak b9) := ⟨rfl, rfl, rfl, by decide +kernel, rfl, by decide +kernel, by decide +kernel⟩
theorem Aq : aJ ["thing", "many", "width"] ["thing", "many", "width"] (ak jC) := ⟨rfl, rfl, rfl, by decide +kernel, rfl, by decide +kernel, by decide +kernel⟩
theorem mS : aJ ["thing", "many", "width"] ["thing"] (ak jD) := ⟨rfl, rfl, rfl, by decide +kernel, rfl, by decide +kernel, by decide +kernel⟩
noncomputable def iy (d : Dv) : Bool := (isD "int" (fun _ => none) d).isSome
noncomputable def Ar : Dv → Bool | .int _ => true | _ => false
noncomputable def bF (m : Int) : Dv → Bool | .int i => decide (0 ≤ i) && decide (i < m) | _ => false
noncomputable def Ij : dj := fun ds M Q _ => ∃ d, ds = [d] ∧ iy d = true ∧ Q (.bl (Ar d)) M
theorem vq {f : Addr} {fd : FuncData} (D : Df K mg "is_whole" dw ["thing"] f fd) (bl : Bl mg) : FnOk P w K mg base bz 1 f fd ["thing"] (bh P w K tb Ij) := by
  refine ix D vp (fun ds M Q E hS => by obtain ⟨d, e, _⟩ := hS; rw [e]; rfl) fun A outer s E Γ ds Q' E' hP hw hK ht hr hS => ?_
  obtain ⟨d, e, hk, q⟩ := hS
  refine ⟨_, (ay (bj (uf (aF (gP (K := K) rfl) rfl bl.isinstance_ bE (aa (qv 0) (aa (gO (v := .ty "int") rfl bl.int_ zh rfl) ah))) (ue (HF (aF (gP (K := K) rfl) rfl bl.isinstance_ bE (aa (qv 0) (aa (gO (v := .ty "bool") rfl bl.bool_ Er rfl) ah)))))))), ?_⟩
  subst e
  cases d <;> first | exact ⟨by decide, ⟨by decide, .inl q⟩⟩ | exact ⟨by decide, .inl q⟩ | exact nomatch hk
noncomputable def Ik : dj := fun ds M Q _ => ∃ d m, ds = [d, .int m] ∧ iy d = true ∧ Q (.bl (bF m d)) M
theorem iF {f f1 : Addr} {fd bp : FuncData} (D : Df K mg "is_whole_below" b9 ["thing", "many"] f fd) (bD : Df K mg "is_whole" dw ["thing"] f1 bp) (bl : Bl mg) : FnOk P w K mg base bz 2 f fd ["thing", "many"] (bh P w K tb Ik) := by
  have xV := vq (P := P) (w := w) (base := base) (tb := tb) bD bl
  refine ix D nJ (fun ds M Q E hS => by obtain ⟨d, m, e, _⟩ := hS; rw [e]; rfl) fun A outer s E Γ ds Q' E' hP hw hK ht hr hS => ?_
  obtain ⟨d, m, e, hk, q⟩ := hS
  refine ⟨_, (ay (bj (uf (aE xV (hr.mono (by decide)) rfl bD.mg bD.fn.kp bD.bd bt hP hw hK ht XR.none (aa (qv 0) ah)) (ue (Ck Cq M6 aU (qv 0) (qv 1)))))), ?_⟩
  subst e
  refine ⟨d, rfl, hk, ?_⟩
  cases d with
  | int i =>
    simp! only [Ar]
    refine jA (fun h => ?_) (fun h => ?_)
    · rw [show bF m (.int i) = decide (i < m) by simp only [bF, h, Bool.true_and]] at q
      exact .inl q
    · rw [show bF m (.int i) = false by simp only [bF, h, Bool.false_and]] at q
      exact .inl q
  | _ => exact .inl q
noncomputable def gQ (m : Int) (w : Nat) : Dv → Bool | .tup ds => decide (ds.length = w) && ds.all (bF m) | _ => false
noncomputable def CH : Dv → Bool | .tup ds => ds.all iy | d => iy d
noncomputable def Il : dj := fun ds M Q _ => ∃ d m w, ds = [d, .int m, .int (w : Nat)] ∧ CH d = true ∧ Q (.bl (gQ m w d)) M
theorem As {f f1 f2 : Addr} {fd bp fd2 : FuncData} {la aL : Addr} (D : Df K mg "is_row" jC ["thing", "many", "width"] f fd) (gR : qW base fd la aL) (hp : aL ∈ tb) (dh : ∃ bm ob, BMod base mainGlobals mg bm ob)
    (aD : Df K mg "is_whole_below" b9 ["thing", "many"] f1 bp) (bD : Df K mg "is_whole" dw ["thing"] f2 fd2) (bl : Bl mg) : FnOk P w K mg base bz 4 f fd ["thing", "many", "width"] (bh P w K tb Il) := by
  have gd := iF (P := P) (w := w) (base := base) (tb := tb) aD bD bl
  refine ix D Aq (fun ds M Q E hS => by obtain ⟨d, m, n, e, _⟩ := hS; rw [e]; rfl) fun A outer s E Γ ds Q' E' hP hw hK ht hr hS => ?_
  obtain ⟨d, m, n, e, hk, q⟩ := hS
  have xW : aL ∈ Γ.tb := ht ▸ hp
  refine ⟨_, (az (dD (QW.pt (nE (gB (fI (aF (gP (K := K) rfl) rfl bl.isinstance_ bE (aa (qv 0) (aa (gO (v := .ty "tuple") rfl bl.tuple_ dU rfl) ah))))) (km (dn Cr (aF (eL (K := K) rfl hK) rfl bl.len_ PySem.boot_len (aa (qv 0) ah)) (qv 2) (bU _)))))
      (ay (bj e7))
      qss_nil)
    (ay (bj (pE (k := 2) (N' := ["goal", "many"]) (tn := 1) (idx := [1]) xW (hr.mono (by decide)) rfl (show aO ["thing", "many", "width"] (ak jC) _ ["goal", "many"] 1 [1] from by decide +kernel) rfl rfl gR.code gR.hd dh rfl bl.all_ (kn (K := K) rfl (qv 0)) (fun _ _ _ _ _ _ _ hr => (cZ (i := 0) (show List.Nodup [("goal" : Str), ("many" : Str)] from by decide +kernel) rfl (Or.inl rfl))) (fun _ _ _ _ _ _ _ hr => e8) (fun _ _ _ _ _ _ _ hr => (aE gd (hr.mono (by decide)) rfl aD.mg aD.fn.kp aD.bd bt hP hw hK ht XR.none (aa (qv 0) (aa (qv 1) ah)))))))), ?_⟩
  subst e
  cases d with
  | tup es =>
    refine ⟨by decide, jA (c := !decide ((es.length : Int) = (n : Nat))) (fun h => ?_) (fun h => ?_)⟩
    · rw [show gQ m n (.tup es) = false by simp at h; simp [gQ]; intro z; omega] at q
      exact .inl q
    · rw [show gQ m n (.tup es) = es.all (bF m) by simp at h; simp [gQ, show es.length = n by omega]] at q
      refine ko (bF m) (fun τ => ∃ x, τ = [x, some (.int m)]) ⟨none, rfl⟩ (fun d hd τ ⟨x, e⟩ R hR => ?_) (.inl q)
      subst e
      exact ⟨d, m, rfl, List.all_eq_true.mp hk d hd, hR _ ⟨_, rfl⟩⟩
  | _ => first | exact ⟨by decide, .inl q⟩ | exact nomatch hk
noncomputable def jG : Dv → Bool | .tup rs => decide (1 ≤ rs.length ∧ rs.length ≤ 9) && (rs.all (gQ rs.length 2) || rs.all (gQ rs.length 3)) | _ => false
noncomputable def xX : Dv → Bool | .tup rs => rs.all CH | d => iy d
noncomputable def Im : dj := fun ds M Q _ => ∃ d, ds = [d] ∧ xX d = true ∧ Q (.bl (jG d)) M
theorem Au {f f1 f2 f3 : Addr} {fd bp fd2 iG : FuncData} {la aL uG aX : Addr} (D : Df K mg "is_net" jD ["thing"] f fd) (lb : qW base fd uG aX) (O6 : aX ∈ tb) (gf : Df K mg "is_row" jC ["thing", "many", "width"] f3 iG) (gR : qW base iG la aL) (hp : aL ∈ tb) (dh : ∃ bm ob, BMod base mainGlobals mg bm ob)
    (aD : Df K mg "is_whole_below" b9 ["thing", "many"] f1 bp) (bD : Df K mg "is_whole" dw ["thing"] f2 fd2) (bl : Bl mg) {tk : Tok} (gS : mg "MOST_PLACES" = some (.int 9 tk)) : FnOk P w K mg base bz 6 f fd ["thing"] (bh P w K tb Im) := by
  have CI := As (P := P) (w := w) (tb := tb) gf gR hp dh aD bD bl
  refine ix D mS (fun ds M Q E hS => by obtain ⟨d, e, _⟩ := hS; rw [e]; rfl) fun A outer s E Γ ds Q' E' hP hw hK ht hr hS => ?_
  obtain ⟨d, e, hk, q⟩ := hS
  have lg : aX ∈ Γ.tb := ht ▸ O6
  refine ⟨_, (az (dD (QW.pt (nE (gB (fI (aF (gP (K := K) rfl) rfl bl.isinstance_ bE (aa (qv 0) (aa (gO (v := .ty "tuple") rfl bl.tuple_ dU rfl) ah))))) (km (gB (Cm Cq Cq aU (aF (eL (K := K) rfl hK) rfl bl.len_ PySem.boot_len (aa (qv 0) ah)) (ua (i := 9) rfl gS ⟨_, rfl⟩))))))
      (ay (bj e7))
      qss_nil)
    (az (cw (i := 1) mS.nd rfl (Or.inr rfl) (aF (eL (K := K) rfl hK) rfl bl.len_ PySem.boot_len (aa (qv 0) ah)))
    (az (pA PassesOwn.never rfl (kn (K := K) rfl (c9 (aa aU (aa aU ah)))) (fun DX eP ew eK et => by have hP := hP.trans eP.symm; have hw := hw.trans ew.symm; have hK := hK.trans eK.symm; have ht := ht.trans et.symm; have lg := et.symm ▸ lg; exact ⟨(cZ (i := 2) mS.nd rfl (Or.inr rfl)), (ay (dD (fI (pE (k := 4) (N' := ["row", "many", "width"]) (tn := 1) (idx := [1, 2]) lg (hr.mono (by decide)) rfl (show aO ["thing", "many", "width"] (ak jD) _ ["row", "many", "width"] 1 [1, 2] from by decide +kernel) rfl rfl lb.code lb.hd dh rfl bl.all_ (kn (K := K) rfl (qv 0)) (fun _ _ _ _ _ _ _ hr => (cZ (i := 0) (show List.Nodup [("row" : Str), ("many" : Str), ("width" : Str)] from by decide +kernel) rfl (Or.inl rfl))) (fun _ _ _ _ _ _ _ hr => e8) (fun _ _ _ _ _ _ _ hr => (aE CI (hr.mono (by decide)) rfl gf.mg gf.fn.kp gf.bd bt hP hw hK ht XR.none (aa (qv 0) (aa (qv 1) (aa (qv 2) ah)))))))
      (ay (bj e7))
      qss_nil))⟩))
    (ay (bj e7))))), ?_⟩
  subst e
  cases d with
  | tup rs =>
    refine ⟨by decide, ?_⟩
    have row : ∀ (n : Nat) (D : Bool → Mh → Prop), (D (rs.all (gQ rs.length n)) Γ.M0) → jS (zgName 0) zNoIf (zCall Il (fun _ _ => False) (zCons (zVar 0) (zCons (zVar 1) (zCons (zVar 2) zNil)))) rs [none, some (.int rs.length), some (.int (n : Nat))] Γ.M0 D := fun n D hD => by
      refine ko (gQ rs.length n) (fun τ => ∃ x, τ = [x, some (.int rs.length), some (.int (n : Nat))]) ⟨none, rfl⟩ (fun d hd τ ⟨x, e⟩ R hR => ?_) hD
      subst e
      exact ⟨d, rs.length, n, rfl, List.all_eq_true.mp hk d hd, hR _ ⟨_, rfl⟩⟩
    simp! only []
    refine jA (fun h1 => jA (fun h2 => ?_) (fun h2 => ⟨by decide, ?_⟩)) (fun h1 => ?_)
    · rw [show jG (.tup rs) = false by simp at h1 h2; simp [jG]; intro z; omega] at q
      exact .inl q
    · have e : jG (.tup rs) = (rs.all (gQ rs.length 2) || rs.all (gQ rs.length 3)) := by
        simp at h1 h2
        simp only [jG]
        rw [decide_eq_true (by omega), Bool.true_and]
      rw [e] at q
      refine row 2 _ (jA (fun z => ?_) (fun z => row 3 _ (jA (fun z2 => ?_) (fun z2 => ?_))))
      · rw [z] at q; exact .inl q
      · rw [z, z2] at q; exact .inl q
      · rw [z, z2] at q; exact .inl q
    · rw [show jG (.tup rs) = false by simp at h1; simp [jG]; intro z; omega] at q
      exact .inl q
  | _ => first | exact ⟨by decide, .inl q⟩ | exact nomatch hk
theorem vr : aJ ["thing"] ["thing"] (ak fc) := ⟨rfl, rfl, rfl, by decide +kernel, rfl, by decide +kernel, by decide +kernel⟩
theorem rH {m : Int} {g : Int} (h : 0 ≤ g ∧ g < m) : bF m (.int g) = true := by simp [bF, h.1, h.2]
theorem qt {af : List (List Int)} {n : Nat} (o : cA af n) : jG (eN af) = true := by
  have hr : ∀ d ∈ af.map eI, gQ (af.map eI).length n d = true := fun d hd => by
    obtain ⟨r, hr, rfl⟩ := List.mem_map.mp hd
    obtain ⟨h1, h2⟩ := o.row r hr
    simp only [gQ, List.length_map]
    rw [decide_eq_true h1, Bool.true_and, List.all_eq_true]
    intro d hd
    obtain ⟨g, hg, rfl⟩ := List.mem_map.mp hd
    exact rH (h2 g hg)
  have ho := o.one
  have hn := o.nine
  simp only [jG, eN]
  rw [decide_eq_true (by rw [List.length_map]; omega), Bool.true_and]
  have ha := List.all_eq_true.mpr hr
  rcases o.wid with rfl | rfl
  · rw [ha]; rfl
  · rw [ha, Bool.or_true]
theorem qu (af : List (List Int)) : xX (eN af) = true := by
  simp only [xX, eN]
  rw [List.all_eq_true]
  intro d hd
  obtain ⟨r, _, rfl⟩ := List.mem_map.mp hd
  simp only [CH, eI]
  rw [List.all_eq_true]
  intro d hd
  obtain ⟨g, hg, rfl⟩ := List.mem_map.mp hd
  rfl
noncomputable def sG (C : Addr) : dj := fun ds M Q E => ∃ d, ds = [d] ∧ xX d = true ∧ (jG d = true → Q .aq M) ∧ (jG d = false → E C M)
theorem vt {f f1 : Addr} {fd bp : FuncData} {C0 C_NoNet : Addr} {cs : List Addr} (D : Df K mg "need_net" fc ["thing"] f fd) (gh : Df K mg "is_net" jD ["thing"] f1 bp) (oz : FnOk P w K mg base bz 6 f1 bp ["thing"] (bh P w K tb Im))
    (X_ : oi K C0 cs) (iV : C_NoNet ∈ cs) (iW : mg "NoNet" = some (.ref C_NoNet)) : FnOk P w K mg base (cC P w) 7 f fd ["thing"] (bh P w K tb (sG C_NoNet)) := by
  refine iP D vr (fun ds M Q E hS => by obtain ⟨d, e, _⟩ := hS; rw [e]; rfl) fun A outer s E Γ ds Q' E' hP hw hK ht hE hr hS => ?_
  obtain ⟨d, e, hk, q1, q2⟩ := hS
  refine ⟨_, (ay (dD (gB (fI (aE oz (hr.mono (by decide)) rfl gh.mg gh.fn.kp gh.bd bt hP hw hK ht XR.none (aa (qv 0) ah))))
      (ay (ow (X_.ex _ iV) PySem.F.excBase_ValueError rfl tX hE rfl iW (aa bJ ah)))
      qss_nil)), ?_⟩
  subst e
  simp! only []
  refine ⟨d, rfl, hk, jA (fun h => ?_) (fun h => ?_)⟩
  · exact ⟨by decide, q2 (by simpa using h)⟩
  · exact .inl (q1 (by simpa using h))
end
section
variable {P : Program} {w : World} {K : PySem.W.Frag} {mg : Str → Option Value} {base : Heap} {tb : cU} {C_NoNet C_NoWord C0 : Addr} {cs : List Addr}
theorem vw : aJ ["net"] ["net"] (ak iR) := ⟨rfl, rfl, rfl, by decide +kernel, rfl, by decide +kernel, by decide +kernel⟩
theorem pM : aJ ["net", "thing", "signs"] ["net", "thing"] (ak ip) := ⟨rfl, rfl, rfl, by decide +kernel, rfl, by decide +kernel, by decide +kernel⟩
theorem uH : aJ ["net", "thing"] ["net", "thing"] (ak fL) := ⟨rfl, rfl, rfl, by decide +kernel, rfl, by decide +kernel, by decide +kernel⟩
theorem mU : aJ ["net", "place", "word", "sign"] ["net", "place", "word"] (ak jE) := ⟨rfl, rfl, rfl, by decide +kernel, rfl, by decide +kernel, by decide +kernel⟩
theorem rW : aJ ["net"] ["net"] (ak gD) := ⟨rfl, rfl, rfl, by decide +kernel, rfl, by decide +kernel, by decide +kernel⟩
theorem Av : aJ ["net", "word"] ["net", "word"] (ak gb) := ⟨rfl, rfl, rfl, by decide +kernel, rfl, by decide +kernel, by decide +kernel⟩
theorem Fe : aJ ["net", "word"] ["net", "word"] (ak pK) := ⟨rfl, rfl, rfl, by decide +kernel, rfl, by decide +kernel, by decide +kernel⟩
theorem vy : aJ ["net", "thing"] ["net", "thing"] (ak iS) := ⟨rfl, rfl, rfl, by decide +kernel, rfl, by decide +kernel, by decide +kernel⟩
theorem Aw : aJ ["net", "thing"] ["net", "thing"] (ak jF) := ⟨rfl, rfl, rfl, by decide +kernel, rfl, by decide +kernel, by decide +kernel⟩
theorem vz : aJ ["net", "thing"] ["net", "thing"] (ak iT) := ⟨rfl, rfl, rfl, by decide +kernel, rfl, by decide +kernel, by decide +kernel⟩
theorem CJ : aJ ["net", "places", "word"] ["net", "places", "word"] (ak ku) := ⟨rfl, rfl, rfl, by decide +kernel, rfl, by decide +kernel, by decide +kernel⟩
noncomputable def sgn (w : Nat) : Str := Txt.slice "abc" none (some (w : Int))
theorem Ax {af : List (List Int)} {n k : Nat} (h : k < af.length) : dO (af.map eI) ((k : Nat) : Int) = some (eI af[k]) := cN (by rw [List.getElem?_map, List.getElem?_eq_getElem h]; rfl)
theorem qw {af : List (List Int)} {n : Nat} (o : cA af n) : ∃ r, dO (af.map eI) 0 = some (eI r) ∧ r.length = n := by
  have := o.one
  exact ⟨af[0], Ax (n := n) (k := 0) (by omega), (o.row _ (List.getElem_mem _)).1⟩
noncomputable def Ay : dj := fun ds M Q _ => ∃ af n, ds = [eN af] ∧ cA af n ∧ Q (.str (sgn n)) M
theorem vA {f f1 : Addr} {fd bp : FuncData} (D : Df K mg "signs_of" iR ["net"] f fd)
    (bu : Df K mg "need_net" fc ["thing"] f1 bp) (cR : FnOk P w K mg base (cC P w) 7 f1 bp ["thing"] (bh P w K tb (sG C_NoNet))) (bl : Bl mg) {tk : Tok} (gT : mg "SIGNS" = some (.str "abc" tk)) :
    FnOk P w K mg base (cC P w) 8 f fd ["net"] (bh P w K tb Ay) := by
  refine iP D vw (fun ds M Q E hS => by obtain ⟨af, n, e, _⟩ := hS; rw [e]; rfl) fun A outer s E Γ ds Q' E' hP hw hK ht hE hr hS => ?_
  obtain ⟨af, n, e, o, q⟩ := hS
  refine ⟨_, (az (eA (aE cR (hr.mono (by decide)) rfl bu.mg bu.fn.kp bu.bd gZ hP hw hK ht hE (aa (qv 0) ah)))
    (ay (bj (Cu JS (ub (z := "abc") rfl gT ⟨_, rfl⟩) EY (EZ (aF (eL (K := K) rfl hK) rfl bl.len_ PySem.boot_len (aa (fP (iw (K := K) rfl) (qv 0) aU (fun _ _ => rfl)) ah))))))), ?_⟩
  subst e
  obtain ⟨r, h0, hl⟩ := qw o
  refine ⟨_, rfl, qu af, fun _ => ?_, fun h => by rw [qt o] at h; cases h⟩
  simp! only [h0, hl]
  exact ⟨by decide, .inl q⟩
noncomputable def da (n : Nat) (z : Str) : Prop := ∀ c ∈ z.cps.toList, ∃ k : Nat, k < n ∧ c = 97 + k
theorem Ff {n k : Nat} (hn : n = 2 ∨ n = 3) (hk : k < n) : sD ⟨#[97 + k]⟩ (sgn n) = true := by
  rcases hn with rfl | rfl
  · have : k = 0 ∨ k = 1 := by omega
    rcases this with rfl | rfl <;> decide +kernel
  · have : k = 0 ∨ k = 1 ∨ k = 2 := by omega
    rcases this with rfl | rfl | rfl <;> decide +kernel
noncomputable def DY (n : Nat) : Dv → Bool | .str y => sD y (sgn n) | _ => false
theorem Io {n : Nat} {z : Str} (hn : n = 2 ∨ n = 3) (hw : da n z) : (fJ z).all (DY n) = true := by
  rw [List.all_eq_true]
  intro d hd
  obtain ⟨c, hc, rfl⟩ := List.mem_map.mp hd
  obtain ⟨k, hk, rfl⟩ := hw c hc
  exact Ff hn hk
theorem Fg {n c : Nat} (hn : n = 2 ∨ n = 3) (h : c ∈ (sgn n).cps.toList) : ∃ k : Nat, k < n ∧ c = 97 + k := by
  rcases hn with rfl | rfl
  · rw [show (sgn 2).cps.toList = [97, 98] from by decide +kernel] at h
    simp only [List.mem_cons, List.mem_singleton, List.not_mem_nil, or_false] at h
    rcases h with rfl | rfl
    · exact ⟨0, by decide, rfl⟩
    · exact ⟨1, by decide, rfl⟩
  · rw [show (sgn 3).cps.toList = [97, 98, 99] from by decide +kernel] at h
    simp only [List.mem_cons, List.mem_singleton, List.not_mem_nil, or_false] at h
    rcases h with rfl | rfl | rfl
    · exact ⟨0, by decide, rfl⟩
    · exact ⟨1, by decide, rfl⟩
    · exact ⟨2, by decide, rfl⟩
noncomputable def lM (d : Dv) : Prop := iy d = true ∧ ∀ z, d = .str z → z.length ≤ 10000
noncomputable def cm (n : Nat) : Dv → Bool | .str z => decide (z.length ≤ 2000) && (fJ z).all (DY n) | _ => false
theorem lh {n : Nat} {z : Str} (hn : n = 2 ∨ n = 3) (hw : da n z) (hl : z.length ≤ 2000) : cm n (.str z) = true := by
  simp only [cm]
  rw [decide_eq_true hl, Bool.true_and, Io hn hw]
theorem lj {n : Nat} {y : Dv} (hn : n = 2 ∨ n = 3) (h : cm n y = true) : ∃ z, y = .str z ∧ da n z ∧ z.length ≤ 2000 := by
  cases y with
  | str z =>
    simp only [cm, Bool.and_eq_true, decide_eq_true_eq, List.all_eq_true] at h
    refine ⟨z, rfl, fun c hc => ?_, h.1⟩
    have h2 := h.2 (.str ⟨#[c]⟩) (List.mem_map.mpr ⟨c, hc, rfl⟩)
    simp only [DY, sD, Bool.not_eq_true'] at h2
    exact Fg hn (Ca h2)
  | _ => cases h
theorem Az {n : Nat} {z : Str} (hn : n = 2 ∨ n = 3) {c : Nat} (hc : c ∈ z.cps.toList) (h : ∀ k < n, c ≠ 97 + k) : cm n (.str z) = false := by
  cases e : cm n (.str z) with
  | false => rfl
  | true =>
    obtain ⟨z', e1, hw, _⟩ := lj hn e
    cases e1
    obtain ⟨k, hk, e2⟩ := hw c hc
    exact absurd e2 (h k hk)
noncomputable def DZ : dj := fun ds M Q _ => ∃ af n d, ds = [eN af, d] ∧ cA af n ∧ lM d ∧ Q (.bl (cm n d)) M
theorem xY {f f1 : Addr} {fd bp : FuncData} {rJ aK : Addr} (D : Df K mg "is_word" ip ["net", "thing"] f fd) (jZ : qW base fd rJ aK) (hp : aK ∈ tb) (dh : ∃ bm ob, BMod base mainGlobals mg bm ob)
    (fe : Df K mg "signs_of" iR ["net"] f1 bp) (ll : FnOk P w K mg base (cC P w) 8 f1 bp ["net"] (bh P w K tb Ay)) (bl : Bl mg) {tk : Tok} (dH : mg "MOST_SIGNS_OF_WORD" = some (.int 2000 tk)) :
    FnOk P w K mg base (cC P w) 9 f fd ["net", "thing"] (bh P w K tb DZ) := by
  refine iP D pM (fun ds M Q E hS => by obtain ⟨af, n, z, e, _⟩ := hS; rw [e]; rfl) fun A outer s E Γ ds Q' E' hP hw hK ht hE hr hS => ?_
  obtain ⟨af, n, d, e, o, ⟨hk, hz⟩, q⟩ := hS
  have vB : aK ∈ Γ.tb := ht ▸ hp
  refine ⟨_, (az (cw (i := 2) pM.nd rfl (Or.inr rfl) (aE ll (hr.mono (by decide)) rfl fe.mg fe.fn.kp fe.bd gZ hP hw hK ht hE (aa (qv 0) ah)))
    (az (dD (QW.pt (nE (gB (fI (aF (gP (K := K) rfl) rfl bl.isinstance_ bE (aa (qv 1) (aa (gO (v := .ty "str") rfl bl.str_ G0 rfl) ah))))) (km (dn M7 (aF (eL (K := K) rfl hK) rfl bl.len_ PySem.boot_len (aa (qv 1) ah)) (ua (i := 2000) rfl dH ⟨_, rfl⟩) (bU _)))))
      (ay (bj e7))
      qss_nil)
    (ay (bj (pE (k := 0) (N' := ["sign", "signs"]) (tn := 1) (idx := [2]) vB (hr.mono (by decide)) rfl (show aO ["net", "thing", "signs"] (ak ip) _ ["sign", "signs"] 1 [2] from by decide +kernel) rfl rfl jZ.code jZ.hd dh rfl bl.all_ (zU (qv 1)) (fun _ _ _ _ _ _ _ hr => (cZ (i := 0) (show List.Nodup [("sign" : Str), ("signs" : Str)] from by decide +kernel) rfl (Or.inl rfl))) (fun _ _ _ _ _ _ _ hr => e8) (fun _ _ _ _ _ _ _ hr => (wm Ct (qv 0) (qv 1) (by rfl)))))))), ?_⟩
  subst e
  have big : (10000 : Nat) < sizeLine := by decide
  refine ⟨af, n, rfl, o, ?_⟩
  cases d with
  | str z =>
    have hl := hz z rfl
    simp! only []
    refine ⟨by decide, by omega, jA (fun h => ?_) (fun h => ?_)⟩
    · simp only [cm, show decide (z.length ≤ 2000) = false by simp at h ⊢; omega, Bool.false_and] at q
      exact .inl q
    · refine ko (DY n) (fun τ => ∃ x, τ = [x, some (.str (sgn n))]) ⟨none, rfl⟩ (fun d hd τ ⟨x, e⟩ R hR => ?_) ?_
      · subst e
        obtain ⟨c, hc, rfl⟩ := List.mem_map.mp hd
        exact ⟨trivial, hR _ ⟨_, rfl⟩⟩
      · simp only [cm, show decide (z.length ≤ 2000) = true by simp at h ⊢; omega, Bool.true_and] at q
        exact .inl q
  | _ => first | exact ⟨by decide, .inl q⟩ | exact nomatch hk
noncomputable def mV (C : Addr) : dj := fun ds M Q E => ∃ af n d, ds = [eN af, d] ∧ cA af n ∧ lM d ∧ (cm n d = true → Q .aq M) ∧ (cm n d = false → E C M)
theorem uI {f f1 : Addr} {fd bp : FuncData} (D : Df K mg "need_word" fL ["net", "thing"] f fd) (eU : Df K mg "is_word" ip ["net", "thing"] f1 bp) (mW : FnOk P w K mg base (cC P w) 9 f1 bp ["net", "thing"] (bh P w K tb DZ))
    (X_ : oi K C0 cs) (bR : C_NoWord ∈ cs) (gU : mg "NoWord" = some (.ref C_NoWord)) : FnOk P w K mg base (cC P w) 10 f fd ["net", "thing"] (bh P w K tb (mV C_NoWord)) := by
  refine iP D uH (fun ds M Q E hS => by obtain ⟨af, n, d, e, _⟩ := hS; rw [e]; rfl) fun A outer s E Γ ds Q' E' hP hw hK ht hE hr hS => ?_
  obtain ⟨af, n, d, e, o, hk, q1, q2⟩ := hS
  refine ⟨_, (ay (dD (gB (fI (aE mW (hr.mono (by decide)) rfl eU.mg eU.fn.kp eU.bd gZ hP hw hK ht hE (aa (qv 0) (aa (qv 1) ah)))))
      (ay (ow (X_.ex _ bR) PySem.F.excBase_ValueError rfl tX hE rfl gU (aa bJ ah)))
      qss_nil)), ?_⟩
  subst e
  simp! only []
  refine ⟨af, n, d, rfl, o, hk, jA (fun h => ?_) (fun h => ?_)⟩
  · exact ⟨by decide, q2 (by simpa using h)⟩
  · exact .inl (q1 (by simpa using h))
noncomputable def stepI (af : List (List Int)) (p : Int) (c : Nat) : Int := (af.getD p.toNat []).getD (c - 97) 0
noncomputable def gV (af : List (List Int)) (p : Int) (cs : List Nat) : Int := cs.foldl (stepI af) p
theorem Fh {k : Nat} (hk : k < 3) : ∃ rest, Builtin.Str.occurrences "abc" ⟨#[97 + k]⟩ 0 (Str.length "abc") 1 = k :: rest := by
  have : k = 0 ∨ k = 1 ∨ k = 2 := by omega
  rcases this with rfl | rfl | rfl
  · exact ⟨[], by decide +kernel⟩
  · exact ⟨[], by decide +kernel⟩
  · exact ⟨[], by decide +kernel⟩
theorem step_at {af : List (List Int)} {n : Nat} (o : cA af n) {p : Int} (h0 : 0 ≤ p) (h1 : p < (af.length : Nat)) {k : Nat} (hk : k < n) :
    (0 ≤ stepI af p (97 + k) ∧ stepI af p (97 + k) < (af.length : Nat)) ∧ ∃ r, dO (af.map eI) p = some (eI r) ∧ dO (r.map Dv.int) ((k : Nat) : Int) = some (.int (stepI af p (97 + k))) := by
  have hp : p.toNat < af.length := by omega
  have e : af.getD p.toNat [] = af[p.toNat] := by rw [List.getD_eq_getElem?_getD, List.getElem?_eq_getElem hp]; rfl
  obtain ⟨o1, o2⟩ := o.row _ (List.getElem_mem hp)
  have ek : 97 + k - 97 = k := by omega
  have nQ : k < af[p.toNat].length := by omega
  have es : stepI af p (97 + k) = af[p.toNat][k] := by
    unfold stepI
    rw [e, ek, List.getD_eq_getElem?_getD, List.getElem?_eq_getElem nQ]; rfl
  rw [es]
  refine ⟨o2 _ (List.getElem_mem nQ), af[p.toNat], ?_, cN (by rw [List.getElem?_map, List.getElem?_eq_getElem nQ]; rfl)⟩
  have := Ax (n := n) hp
  rwa [show ((p.toNat : Nat) : Int) = p by omega] at this
theorem uJ {af : List (List Int)} {n : Nat} (o : cA af n) : ∀ (cs : List Nat) {p : Int}, 0 ≤ p → p < (af.length : Nat) → (∀ c ∈ cs, ∃ k : Nat, k < n ∧ c = 97 + k) → 0 ≤ gV af p cs ∧ gV af p cs < (af.length : Nat)
  | [], p, h0, h1, _ => ⟨h0, h1⟩
  | c :: cs, p, h0, h1, hw => by
    obtain ⟨k, hk, rfl⟩ := hw c List.mem_cons_self
    obtain ⟨s0, s1⟩ := (step_at o h0 h1 hk).1
    exact uJ o cs s0 s1 fun c hc => hw c (List.mem_cons_of_mem _ hc)
theorem AA {z : Str} {i : Nat} {y : Dv} (h : (fJ z)[i]? = some y) : ∃ c, z.cps.toList[i]? = some c ∧ y = .str ⟨#[c]⟩ := by
  unfold fJ at h
  rw [List.getElem?_map] at h
  cases e : z.cps.toList[i]? with
  | none => rw [e] at h; cases h
  | some c => rw [e] at h; exact ⟨c, rfl, (Option.some.inj h).symm⟩
theorem AB {af : List (List Int)} {p : Int} {cs : List Nat} {i c : Nat} (h : cs[i]? = some c) : gV af p (cs.take (i + 1)) = stepI af (gV af p (cs.take i)) c := by
  rw [List.take_add_one, h]
  unfold gV
  rw [Option.toList_some, List.foldl_append]; rfl
noncomputable def zEnd : dj := fun ds M Q _ => ∃ af n p z, ds = [eN af, .int p, .str z] ∧ cA af n ∧ 0 ≤ p ∧ p < (af.length : Nat) ∧ da n z ∧ Q (.int (gV af p z.cps.toList)) M
theorem AD {f : Addr} {fd : FuncData} {tk : Tok} (D : Df K mg "end_of" jE ["net", "place", "word"] f fd) (gT : mg "SIGNS" = some (.str "abc" tk)) : FnOk P w K mg base bz 1 f fd ["net", "place", "word"] (bh P w K tb zEnd) := by
  refine ix D mU (fun ds M Q E hS => by obtain ⟨af, n, p, z, e, _⟩ := hS; rw [e]; rfl) fun A outer s E Γ ds Q' E' hP hw hK ht hr hS => ?_
  obtain ⟨af, n, p, z, e, o, h0, h1, hW, q⟩ := hS
  refine ⟨_, (az (pA PassesOwn.never rfl (zU (qv 2)) (fun DX eP ew eK et => by have hP := hP.trans eP.symm; have hw := hw.trans ew.symm; have hK := hK.trans eK.symm; have ht := ht.trans et.symm; exact ⟨(cZ (i := 3) mU.nd rfl (Or.inl rfl)), (ay (cw (i := 1) mU.nd rfl (Or.inl rfl) (fP (iw (K := K) rfl) (fP (iw (K := K) rfl) (qv 0) (qv 1) (fun _ _ => rfl)) (JT (K := K) rfl PySem.F.plainAttrs_str PySem.F.slot_str_index PySem.F.type_str_index Cv (ub (z := "abc") rfl gT ⟨_, rfl⟩) (aa (qv 3) ah)) (fun _ _ => rfl))))⟩))
    (ay (bj (qv 1)))), ?_⟩
  subst e
  simp! only []
  refine mM (fun i ρ M => (∃ x, ρ = [some (eN af), some (.int (gV af p (z.cps.toList.take i))), some (.str z), x]) ∧ M = Γ.M0) ⟨⟨_, rfl⟩, rfl⟩ (fun i d ρ M N hd ⟨⟨x, e⟩, eM⟩ hN => ?_) (fun ρ M ⟨⟨x, e⟩, eM⟩ => ?_)
  · subst e eM
    obtain ⟨c, hc, rfl⟩ := AA hd
    obtain ⟨k, hk, rfl⟩ := hW c (List.mem_of_getElem? hc)
    obtain ⟨a0, a1⟩ := uJ o (z.cps.toList.take i) h0 h1 fun c hc => hW c (List.mem_of_mem_take hc)
    obtain ⟨_, r, wG, jP⟩ := step_at o a0 a1 hk
    obtain ⟨rest, hi⟩ := Fh (show k < 3 by have := o.wid; omega)
    simp! only [wG, hi, jP, eN, eI]
    exact hN _ _ ⟨⟨_, by rw [AB hc]⟩, rfl⟩
  · subst e eM
    have : z.cps.toList.take (fJ z).length = z.cps.toList := by unfold fJ; rw [List.length_map, List.take_length]
    rw [this]
    exact .inl q
noncomputable def wH : dj := fun ds M Q _ => ∃ af n, ds = [eN af] ∧ cA af n ∧ Q (eI (bg af.length)) M
theorem rX {f : Addr} {fd : FuncData} (D : Df K mg "all_places" gD ["net"] f fd) (bl : Bl mg) : FnOk P w K mg base bz 1 f fd ["net"] (bh P w K tb wH) := by
  refine ix D rW (fun ds M Q E hS => by obtain ⟨af, n, e, _⟩ := hS; rw [e]; rfl) fun A outer s E Γ ds Q' E' hP hw hK ht hr hS => ?_
  obtain ⟨af, n, e, o, q⟩ := hS
  refine ⟨_, (ay (bj (rV rfl rfl bl.tuple_ rfl bl.range_ (aF (eL (K := K) rfl hK) rfl bl.len_ PySem.boot_len (aa (qv 0) ah))))), ?_⟩
  subst e
  have := o.nine
  simp! only [eN]
  exact ⟨by omega, by omega, .inl q⟩
noncomputable def lq (af : List (List Int)) (z : Str) : List Int := (bg af.length).map fun p => gV af p z.cps.toList
noncomputable def pN (C : Addr) : dj := fun ds M Q E => ∃ af n d, ds = [eN af, d] ∧ cA af n ∧ lM d ∧ (∀ z, d = .str z → da n z → z.length ≤ 2000 → Q (eI (lq af z)) M) ∧ (cm n d = false → E C M)
theorem AF {f f1 f2 f3 : Addr} {fd bp fd2 iG : FuncData} {uK aY : Addr} (D : Df K mg "map_of" gb ["net", "word"] f fd) (lr : qW base fd uK aY) (hp : aY ∈ tb) (dh : ∃ bm ob, BMod base mainGlobals mg bm ob)
    (bu : Df K mg "need_net" fc ["thing"] f1 bp) (cR : FnOk P w K mg base (cC P w) 7 f1 bp ["thing"] (bh P w K tb (sG C_NoNet)))
    (bY : Df K mg "need_word" fL ["net", "thing"] f2 fd2) (eE : FnOk P w K mg base (cC P w) 10 f2 fd2 ["net", "thing"] (bh P w K tb (mV C_NoWord)))
    (de : Df K mg "end_of" jE ["net", "place", "word"] f3 iG) (gW : FnOk P w K mg base bz 1 f3 iG ["net", "place", "word"] (bh P w K tb zEnd)) (bl : Bl mg) :
    FnOk P w K mg base (cC P w) 11 f fd ["net", "word"] (bh P w K tb (pN C_NoWord)) := by
  refine iP D Av (fun ds M Q E hS => by obtain ⟨af, n, z, e, _⟩ := hS; rw [e]; rfl) fun A outer s E Γ ds Q' E' hP hw hK ht hE hr hS => ?_
  obtain ⟨af, n, d, e, o, hk, q, q2⟩ := hS
  have xZ : aY ∈ Γ.tb := ht ▸ hp
  refine ⟨_, (az (eA (aE cR (hr.mono (by decide)) rfl bu.mg bu.fn.kp bu.bd gZ hP hw hK ht hE (aa (qv 0) ah)))
    (az (eA (aE eE (hr.mono (by decide)) rfl bY.mg bY.fn.kp bY.bd gZ hP hw hK ht hE (aa (qv 0) (aa (qv 1) ah))))
    (ay (bj (nZ (k := 1) (N' := ["place", "net", "word"]) (tn := 1) (idx := [0, 1]) xZ (hr.mono (by decide)) rfl (show aO ["net", "word"] (ak gb) _ ["place", "net", "word"] 1 [0, 1] from by decide +kernel) rfl rfl lr.code lr.hd dh rfl bl.tuple_ (il rfl bl.range_ (aa (aF (eL (K := K) rfl hK) rfl bl.len_ PySem.boot_len (aa (qv 0) ah)) ah)) (fun _ _ _ _ _ _ _ hr => (cZ (i := 0) (show List.Nodup [("place" : Str), ("net" : Str), ("word" : Str)] from by decide +kernel) rfl (Or.inl rfl))) (fun _ _ _ _ _ _ _ hr => e8) (fun _ _ _ _ _ _ _ hr => (aE gW (hr.mono (by decide)) rfl de.mg de.fn.kp de.bd bt hP hw hK ht XR.none (aa (qv 1) (aa (qv 0) (aa (qv 2) ah)))))))))), ?_⟩
  subst e
  have h9 := o.nine
  refine ⟨_, rfl, qu af, fun _ => ?_, fun h => by rw [qt o] at h; cases h⟩
  simp! only []
  refine ⟨af, n, d, rfl, o, hk, fun iH => ?_, q2⟩
  obtain ⟨z, rfl, hW, hl⟩ := lj o.wid iH
  have q := q z rfl hW hl
  simp! only [eN]
  refine ⟨by omega, by omega, Nat.lt_of_le_of_lt h9 (by decide), ?_⟩
  refine nF (fun d => match d with | .int p => Dv.int (gV af p z.cps.toList) | d => d) (fun τ M => (∃ x, τ = [x, some (eN af), some (.str z)]) ∧ M = Γ.M0) ⟨⟨_, rfl⟩, rfl⟩ (fun d hd τ M ⟨⟨x, e⟩, eM⟩ R hR => ?_) (fun τ M ⟨⟨x, e⟩, eM⟩ => ?_)
  · subst e eM
    obtain ⟨i, hi⟩ := List.mem_iff_getElem?.mp hd
    obtain ⟨rfl, bo⟩ := jV hi
    refine ⟨af, n, _, z, rfl, o, by omega, by omega, hW, hR _ _ ⟨⟨_, rfl⟩, rfl⟩⟩
  · subst e eM
    have e : (eT 0 af.length).map (fun d => match d with | .int p => Dv.int (gV af p z.cps.toList) | d => d) = (lq af z).map Dv.int := by
      unfold eT lq bg
      rw [List.map_map, List.map_map, List.map_map]
      refine List.map_congr_left fun p _ => ?_
      simp only [Function.comp, Int.zero_add]
    rw [e]
    exact .inl q
end
section
variable {P : Program} {w : World} {K : PySem.W.Frag} {mg : Str → Option Value} {base : Heap} {tb : cU} {C_NoNet C_NoWord C_NoSet C0 : Addr} {cs : List Addr}
theorem dI : aJ ["net", "word", "once", "met", "said"] ["net", "word"] (ak ef) := ⟨rfl, rfl, rfl, by decide +kernel, rfl, by decide +kernel, by decide +kernel⟩
theorem oA (af : List (List Int)) (z : Str) : (lq af z).length = af.length := by simp [lq, bg]
theorem Fi {af : List (List Int)} {n : Nat} (o : cA af n) {z : Str} (hw : da n z) : kr (lq af z) := fun v hv => by
  obtain ⟨p, hp, rfl⟩ := List.mem_map.mp hv
  obtain ⟨k, hk, rfl⟩ := List.mem_map.mp hp
  have := List.mem_range.mp hk
  rw [oA]
  exact uJ o _ (by omega) (by omega) hw
noncomputable def Ng (i j : Nat) : Dv := .tup [.int (j : Nat), .int ((i : Nat) - (j : Nat))]
noncomputable def AG (C : Addr) : dj := fun ds M Q E => ∃ af n d, ds = [eN af, d] ∧ cA af n ∧ lM d ∧ (∀ z, d = .str z → da n z → z.length ≤ 2000 → ∀ i j, JW (cj (lq af z)) i j → Q (Ng i j) M) ∧ (cm n d = false → E C M)
theorem CK {once : List Int} (o : kr once) {p : Int} (h0 : 0 ≤ p) (h1 : p < (once.length : Nat)) : dO (once.map Dv.int) p = some (.int (cP once p)) := by
  have := cN (xs := once.map Dv.int) (j := p.toNat) (v := Dv.int (cP once p)) (by rw [List.getElem?_map, (jB o h0 h1).2]; rfl)
  rwa [show ((p.toNat : Nat) : Int) = p by omega] at this
noncomputable def D0 (once : List Int) : Dv → Dv | .int p => .int (cP once p) | d => d
theorem AH (once : List Int) (k : Nat) : ((cj once k).map Dv.int).map (D0 once) = (cj once (k + 1)).map Dv.int := by
  rw [cj, List.map_map, List.map_map]
  refine List.map_congr_left fun p _ => rfl
theorem CL {S : Nat → List Int} {i : Nat} (h : ∀ a b, a < b → b < i → S a ≠ S b) (hn : ¬ ∃ j, j < i ∧ S j = S i) : ∀ a b, a < b → b < i + 1 → S a ≠ S b := fun a b pf hb e => by
  rcases Nat.lt_or_ge b i with q | q
  · exact h a b pf q e
  · have : b = i := by omega
    subst this
    exact hn ⟨a, pf, e⟩
theorem qy {f f1 f2 : Addr} {fd bp fd2 : FuncData} {lN ax : Addr} (D : Df K mg "comes_round" ef ["net", "word"] f fd) (fT : qW base fd lN ax) (hp : ax ∈ tb) (dh : ∃ bm ob, BMod base mainGlobals mg bm ob)
    (bN : Df K mg "map_of" gb ["net", "word"] f1 bp) (dY : FnOk P w K mg base (cC P w) 11 f1 bp ["net", "word"] (bh P w K tb (pN C_NoWord)))
    (dJ : Df K mg "all_places" gD ["net"] f2 fd2) (jH : FnOk P w K mg base bz 1 f2 fd2 ["net"] (bh P w K tb wH)) (bl : Bl mg) :
    FnOk P w K mg base (cC P w) 12 f fd ["net", "word"] (bh P w K tb (AG C_NoWord)) := by
  refine iP D dI (fun ds M Q E hS => by obtain ⟨af, n, z, e, _⟩ := hS; rw [e]; rfl) fun A outer s E Γ ds Q' E' hP hw hK ht hE hr hS => ?_
  obtain ⟨af, n, d, e, o, hk, q, q2⟩ := hS
  have pO : ax ∈ Γ.tb := ht ▸ hp
  refine ⟨_, (az (cw (i := 2) dI.nd rfl (Or.inr rfl) (aE dY (hr.mono (by decide)) rfl bN.mg bN.fn.kp bN.bd gZ hP hw hK ht hE (aa (qv 0) (aa (qv 1) ah))))
    (az (cw (i := 3) dI.nd rfl (Or.inl rfl) Cy)
    (az (cw (i := 4) dI.nd rfl (Or.inl rfl) (aE jH (hr.mono (by decide)) rfl dJ.mg dJ.fn.kp dJ.bd bt hP hw hK ht XR.none (aa (qv 0) ah)))
    (az (PS.nM (Cp PassesOwn.never (dn (Cw hr.units) (qv 4) (qv 3) (by rfl))
      (az (E8 hr.units (qv 3) (qv 4) (aF An rfl bl.len_ PySem.boot_len (aa (qv 3) ah)))
    (ay (cw (i := 4) dI.nd rfl (Or.inl rfl) (nZ (k := 0) (N' := ["place", "once"]) (tn := 1) (idx := [2]) pO (hr.mono (by decide)) rfl (show aO ["net", "word", "once", "met", "said"] (ak ef) _ ["place", "once"] 1 [2] from by decide +kernel) rfl rfl fT.code fT.hd dh rfl bl.tuple_ (kn (K := K) rfl (qv 4)) (fun _ _ _ _ _ _ _ hr => (cZ (i := 0) (show List.Nodup [("place" : Str), ("once" : Str)] from by decide +kernel) rfl (Or.inl rfl))) (fun _ _ _ _ _ _ _ hr => e8) (fun _ _ _ _ _ _ _ hr => (fP (iw (K := K) rfl) (qv 1) (qv 0) (fun _ _ => rfl)))))))))
    (ay (bj (c9 (aa (wC hr.units (qv 3) (qv 4) (fun _ _ => rfl)) (aa (dC JP (aF An rfl bl.len_ PySem.boot_len (aa (qv 3) ah)) (wC hr.units (qv 3) (qv 4) (fun _ _ => rfl))) ah))))))))), ?_⟩
  subst e
  have h9 := o.nine
  have big : (2530 : Nat) < sizeLine := by decide
  simp! only []
  refine ⟨af, n, d, rfl, o, hk, fun z ez hW hl => ?_, q2⟩
  subst ez
  have q := q z rfl hW hl
  have ml := oA af z
  have oo := Fi o hW
  obtain ⟨once, ho⟩ : ∃ once, once = lq af z := ⟨_, rfl⟩
  rw [← ho] at q ml oo
  rw [← ho]
  intro a ha
  refine ⟨af, n, rfl, o, ?_⟩
  rw [← ml]
  simp! only []
  refine ⟨fun m ρ M => ∃ i, m = 2530 - i ∧ ρ = [some (eN af), some (.str z), some (eI once), some (.ptr a), some (eI (cj once i))] ∧ M a = some (.dt (fQ (cj once) i) (g5 i)) ∧ Keeps Γ.M0 M ∧ ∀ x y, x < y → y < i → cj once x ≠ cj once y, ⟨_, 0, rfl, rfl, updM_same, .upd ha .refl, fun x y _ h => by omega⟩, ?_⟩
  rintro m ρ M ⟨i, rfl, rfl, O7, hk, hd⟩
  have hi := pJ oo (by omega) hd
  simp! only [O7, eI, pG, xR ((rG (cj once) i).trans (Ap i).symm), rG]
  refine jA (fun h => ?_) (fun h => ?_)
  · have hn : ¬ ∃ j, j < i ∧ cj once j = cj once i := fun z => by
      have h2 := mR.mpr z
      simp only [Bool.not_eq_true', decide_eq_false_iff_not] at h
      exact h h2
    obtain ⟨p1, p2⟩ := Fb (κ := List Key) (k := (cj once i).map Sum.inl) (d := Dv.int (i : Nat)) (ks := fQ (cj once) i) (ds := g5 i) (fun z => hn (mR.mp z))
    rw [p1, p2, ← xS, ← xT]
    refine ⟨by omega, ?_⟩
    refine ⟨by rw [uF]; omega, ?_⟩
    have hd2 := CL hd hn
    have lH := pJ oo (by omega) hd2
    refine nF (D0 once) (fun τ M' => (∃ x, τ = [x, some (eI once)]) ∧ M' = bK M a (.dt (fQ (cj once) (i + 1)) (g5 (i + 1)))) ⟨⟨_, rfl⟩, rfl⟩ (fun d hd τ M' ⟨⟨x, e⟩, eM⟩ R hR => ?_) (fun τ M' ⟨⟨x, e⟩, eM⟩ => ?_)
    · subst e eM
      obtain ⟨p, hp, rfl⟩ := List.mem_map.mp hd
      obtain ⟨p0, p1⟩ := Fd oo i p hp
      have := CK oo p0 p1
      simp! only [eI, this]
      exact hR _ _ ⟨⟨_, rfl⟩, rfl⟩
    · subst e eM
      rw [AH]
      exact ⟨2530 - (i + 1), by omega, i + 1, rfl, rfl, updM_same, Keeps.upd ha hk, hd2⟩
  · have hex : ∃ j, j < i ∧ cj once j = cj once i := mR.mp (by simpa only [Bool.not_eq_false', decide_eq_true_eq] using h)
    obtain ⟨j, hj, e⟩ := hex
    have := xU hd hj
    rw [e] at this
    simp! only [this]
    refine ⟨by decide, ?_⟩
    exact Ad hk (.tup fun d hd => by simp at hd; rcases hd with rfl | rfl <;> exact .int _) (q i j ⟨hj, e.symm, hd⟩)
end
noncomputable def qz (ns : List Int) : List Int := sortI (c6 ns)
theorem CM {ns : List Int} {k : Int} : k ∈ qz ns ↔ k ∈ ns := (sortI_perm _).mem_iff.trans BU
theorem j6 (ns : List Int) : (qz ns).Pairwise (· < ·) := by
  have h1 := tS (c6 ns)
  have h2 : (qz ns).Nodup := (sortI_perm _).nodup_iff.mpr (xq ns)
  exact (List.Pairwise.and h1 h2).imp fun ⟨a, b⟩ => by omega
theorem pP : ∀ {a b : List Int}, a.Pairwise (· < ·) → b.Pairwise (· < ·) → (∀ k, k ∈ a ↔ k ∈ b) → a = b
  | [], [], _, _, _ => rfl
  | [], y :: b, _, _, h => by have := (h y).mpr List.mem_cons_self; cases this
  | x :: a, [], _, _, h => by have := (h x).mp List.mem_cons_self; cases this
  | x :: a, y :: b, ha, hb, h => by
    obtain ⟨Lr, O8⟩ := List.pairwise_cons.mp ha
    obtain ⟨o4, nR⟩ := List.pairwise_cons.mp hb
    have O9 : x = y := by
      rcases List.mem_cons.mp ((h x).mp List.mem_cons_self) with e | e
      · exact e
      · rcases List.mem_cons.mp ((h y).mpr List.mem_cons_self) with e' | e'
        · exact e'.symm
        · have := o4 x e; have := Lr y e'; omega
    subst O9
    congr 1
    refine pP O8 nR fun k => ⟨fun hk => ?_, fun hk => ?_⟩
    · rcases List.mem_cons.mp ((h k).mp (List.mem_cons_of_mem _ hk)) with e | e
      · have := Lr k hk; omega
      · exact e
    · rcases List.mem_cons.mp ((h k).mpr (List.mem_cons_of_mem _ hk)) with e | e
      · have := o4 k hk; omega
      · exact e
theorem AI {ns : List Int} (h : ns.Pairwise (· < ·)) : qz ns = ns := pP (j6 _) h fun _ => CM
structure j0 (m : Nat) (ns : List Int) : Prop where
  str : ns.Pairwise (· < ·)
  rng : ∀ p ∈ ns, 0 ≤ p ∧ p < (m : Int)
  ne : ns ≠ []
theorem pQ {m : Nat} : ∀ {ns : List Int} {lo : Int}, ns.Pairwise (· < ·) → (∀ p ∈ ns, lo ≤ p ∧ p < (m : Int)) → (ns.length : Int) ≤ max 0 ((m : Int) - lo)
  | [], lo, _, _ => by simp; omega
  | x :: ns, lo, h, hr => by
    obtain ⟨h1, h2⟩ := List.pairwise_cons.mp h
    obtain ⟨r1, r2⟩ := hr x List.mem_cons_self
    have := pQ (lo := x + 1) h2 fun p hp => ⟨h1 p hp, (hr p (List.mem_cons_of_mem _ hp)).2⟩
    rw [List.length_cons]
    omega
theorem j0.len {m : Nat} {ns : List Int} (h : j0 m ns) : ns.length ≤ m := by
  have := pQ (lo := 0) h.str h.rng
  omega
theorem uL (n : Nat) : ((List.range n).map fun i => V.int (0 + (i : Nat))) = (bg n).map V.int := by
  unfold bg
  rw [List.map_map]
  refine List.map_congr_left fun i _ => ?_
  show V.int (0 + (i : Int)) = V.int (i : Int)
  rw [Int.zero_add]
theorem AJ {n i : Nat} {x : V} (h : ((bg n).map V.int)[i]? = some x) : x = .int (i : Nat) ∧ i < n := by
  unfold bg at h
  rw [List.map_map, List.getElem?_map] at h
  cases e : (List.range n)[i]? with
  | none => rw [e] at h; cases h
  | some k =>
    rw [e] at h
    obtain ⟨h1, h2⟩ := List.getElem?_eq_some_iff.mp e
    rw [List.getElem_range] at h2
    subst h2
    exact ⟨(Option.some.inj h).symm, by simpa using h1⟩
theorem x8 (n : Nat) : (bg n).length = n := by simp [bg]
section
variable {P : Program} {w : World} {K : PySem.W.Frag} {mg : Str → Option Value} {base : Heap} {tb : cU} {C_NoNet C_NoWord C_NoSet C0 : Addr} {cs : List Addr}
noncomputable def Ip : dj := fun ds M Q _ => ∃ af d, ds = [eN af, d] ∧ iy d = true ∧ Q (.bl (bF (af.length : Int) d)) M
theorem vC {f f1 f2 : Addr} {fd bp fd2 : FuncData} (D : Df K mg "is_place" iS ["net", "thing"] f fd) (aD : Df K mg "is_whole_below" b9 ["thing", "many"] f1 bp) (bD : Df K mg "is_whole" dw ["thing"] f2 fd2) (bl : Bl mg) : FnOk P w K mg base bz 3 f fd ["net", "thing"] (bh P w K tb Ip) := by
  have gd := iF (P := P) (w := w) (base := base) (tb := tb) aD bD bl
  refine ix D vy (fun ds M Q E hS => by obtain ⟨af, d, e, _⟩ := hS; rw [e]; rfl) fun A outer s E Γ ds Q' E' hP hw hK ht hr hS => ?_
  obtain ⟨af, d, e, hk, q⟩ := hS
  refine ⟨_, (ay (bj (aE gd (hr.mono (by decide)) rfl aD.mg aD.fn.kp aD.bd bt hP hw hK ht XR.none (aa (qv 1) (aa (aF (eL (K := K) rfl hK) rfl bl.len_ PySem.boot_len (aa (qv 0) ah)) ah))))), ?_⟩
  subst e
  simp! only []
  exact ⟨d, _, rfl, hk, .inl q⟩
theorem AK {m : Int} {d : Dv} (h : bF m d = true) : ∃ i, d = .int i ∧ 0 ≤ i ∧ i < m := by
  cases d with
  | int i => simp only [bF, Bool.and_eq_true, decide_eq_true_eq] at h; exact ⟨i, rfl, h.1, h.2⟩
  | _ => cases h
theorem mX {m : Int} : ∀ {ds : List Dv}, ds.all (bF m) = true → ∃ ns : List Int, ds = ns.map Dv.int ∧ ∀ p ∈ ns, 0 ≤ p ∧ p < m
  | [], _ => ⟨[], rfl, fun _ h => nomatch h⟩
  | d :: ds, h => by
    rw [List.all_cons, Bool.and_eq_true] at h
    obtain ⟨i, rfl, h0, h1⟩ := AK h.1
    obtain ⟨ns, rfl, hn⟩ := mX h.2
    exact ⟨i :: ns, rfl, fun p hp => by rcases List.mem_cons.mp hp with rfl | hp; exact ⟨h0, h1⟩; exact hn p hp⟩
noncomputable def sH (ds : List Dv) : Bool := match fb ds with | some ns => decide (ns = qz ns) | none => false
noncomputable def eV (m : Nat) : Dv → Bool | .tup ds => !decide (ds.length = 0) && ds.all (bF m) && sH ds | _ => false
noncomputable def mY : Dv → Prop | .tup ds => (∀ d ∈ ds, iy d = true) ∧ ds.length ≤ 20 | d => iy d = true
theorem dQ : ∀ ns : List Int, fb (ns.map Dv.int) = some ns
  | [] => rfl
  | n :: ns => by rw [List.map_cons, fb, dQ ns]; rfl
noncomputable def AO : dj := fun ds M Q _ => ∃ af n d, ds = [eN af, d] ∧ cA af n ∧ mY d ∧ Q (.bl (eV af.length d)) M
theorem AQ {f f1 f2 f3 : Addr} {fd bp fd2 iG : FuncData} {uM aZ : Addr} (D : Df K mg "is_set" jF ["net", "thing"] f fd) (lu : qW base fd uM aZ) (hp : aZ ∈ tb) (dh : ∃ bm ob, BMod base mainGlobals mg bm ob)
    (fg : Df K mg "is_place" iS ["net", "thing"] f3 iG) (aD : Df K mg "is_whole_below" b9 ["thing", "many"] f1 bp) (bD : Df K mg "is_whole" dw ["thing"] f2 fd2) (bl : Bl mg) : FnOk P w K mg base bz 5 f fd ["net", "thing"] (bh P w K tb AO) := by
  have x9 := vC (P := P) (w := w) (base := base) (tb := tb) fg aD bD bl
  refine ix D Aw (fun ds M Q E hS => by obtain ⟨af, n, d, e, _⟩ := hS; rw [e]; rfl) fun A outer s E Γ ds Q' E' hP hw hK ht hr hS => ?_
  obtain ⟨af, n, d, e, o, hk, q⟩ := hS
  have ya : aZ ∈ Γ.tb := ht ▸ hp
  refine ⟨_, (az (dD (QW.pt (nE (gB (fI (aF (gP (K := K) rfl) rfl bl.isinstance_ bE (aa (qv 1) (aa (gO (v := .ty "tuple") rfl bl.tuple_ dU rfl) ah))))) (km (dn uk (aF (eL (K := K) rfl hK) rfl bl.len_ PySem.boot_len (aa (qv 1) ah)) aU (bU _)))))
      (ay (bj e7))
      qss_nil)
    (ay (bj (uf (pE (k := 3) (N' := ["place", "net"]) (tn := 1) (idx := [0]) ya (hr.mono (by decide)) rfl (show aO ["net", "thing"] (ak jF) _ ["place", "net"] 1 [0] from by decide +kernel) rfl rfl lu.code lu.hd dh rfl bl.all_ (kn (K := K) rfl (qv 1)) (fun _ _ _ _ _ _ _ hr => (cZ (i := 0) (show List.Nodup [("place" : Str), ("net" : Str)] from by decide +kernel) rfl (Or.inl rfl))) (fun _ _ _ _ _ _ _ hr => e8) (fun _ _ _ _ _ _ _ hr => (aE x9 (hr.mono (by decide)) rfl fg.mg fg.fn.kp fg.bd bt hP hw hK ht XR.none (aa (qv 1) (aa (qv 0) ah))))) (ue (wm (JR hr.units) (gq (z9 (K := K) rfl) rfl bl.list_ v7 (aa (qv 1) ah)) (aF (uq hP hw (K := K) rfl rfl) rfl bl.sorted_ ra (aa (gq (DS hP hw (K := K) rfl rfl) rfl bl.set_ zI (aa (qv 1) ah)) ah)) (bU _))))))), ?_⟩
  subst e
  cases d with
  | tup es =>
    obtain ⟨hk, hl⟩ := hk
    simp! only []
    refine ⟨by decide, jA (fun h => ?_) (fun h => ?_)⟩
    · simp only [eV, show decide (es.length = 0) = true by simp at h ⊢; omega, Bool.not_true, Bool.false_and] at q
      exact .inl q
    · simp only [eV, show decide (es.length = 0) = false by simp at h ⊢; omega, Bool.not_false, Bool.true_and] at q
      refine ko (bF (af.length : Int)) (fun τ => ∃ x, τ = [x, some (eN af)]) ⟨none, rfl⟩ (fun d hd τ ⟨x, e⟩ R hR => ?_) ?_
      · subst e
        exact ⟨af, d, rfl, hk d hd, hR _ ⟨_, rfl⟩⟩
      · cases hb : es.all (bF (af.length : Int)) with
        | false => rw [hb] at q; exact .inl q
        | true =>
          rw [hb] at q
          obtain ⟨ns, rfl, hn⟩ := mX hb
          rw [List.length_map] at hl
          simp! only [dQ, Option.bind_some]
          have hd := (n9 (ns := ns))
          refine ⟨Nat.lt_of_le_of_lt (show ns.length + 1 ≤ 21 by omega) (by decide), by omega, ?_⟩
          simp only [oq, now, cx, uv, Option.map_some, di, pF, Bool.false_eq_true, if_false]
          refine ⟨by rw [iE]; have := E3 ns; omega, ?_⟩
          simp only [sH, dQ, Bool.true_and] at q
          exact .inl q
  | _ => first | exact ⟨by decide, .inl q⟩ | exact nomatch hk
noncomputable def uN (C : Addr) : dj := fun ds M Q E => ∃ af n d, ds = [eN af, d] ∧ cA af n ∧ mY d ∧ (eV af.length d = true → Q .aq M) ∧ (eV af.length d = false → E C M)
theorem vD {f f1 : Addr} {fd bp : FuncData} (D : Df K mg "need_set" iT ["net", "thing"] f fd) (gi : Df K mg "is_set" jF ["net", "thing"] f1 bp) (oB : FnOk P w K mg base bz 5 f1 bp ["net", "thing"] (bh P w K tb AO))
    (X_ : oi K C0 cs) (c0 : C_NoSet ∈ cs) (gX : mg "NoSet" = some (.ref C_NoSet)) : FnOk P w K mg base (cC P w) 6 f fd ["net", "thing"] (bh P w K tb (uN C_NoSet)) := by
  refine iP D vz (fun ds M Q E hS => by obtain ⟨af, n, d, e, _⟩ := hS; rw [e]; rfl) fun A outer s E Γ ds Q' E' hP hw hK ht hE hr hS => ?_
  obtain ⟨af, n, d, e, o, hk, q1, q2⟩ := hS
  refine ⟨_, (ay (dD (gB (fI (aE oB (hr.mono (by decide)) rfl gi.mg gi.fn.kp gi.bd bt hP hw hK ht XR.none (aa (qv 0) (aa (qv 1) ah)))))
      (ay (ow (X_.ex _ c0) PySem.F.excBase_ValueError rfl tX hE rfl gX (aa bJ ah)))
      qss_nil)), ?_⟩
  subst e
  simp! only []
  refine ⟨af, n, d, rfl, o, hk, jA (fun h => ?_) (fun h => ?_)⟩
  · exact ⟨by decide, q2 (by simpa using h)⟩
  · exact .inl (q1 (by simpa using h))
theorem CN {m : Nat} {d : Dv} (hk : mY d) (h : eV m d = true) : ∃ ns : List Int, d = eI ns ∧ (∀ p ∈ ns, 0 ≤ p ∧ p < (m : Int)) ∧ ns.length ≤ 20 := by
  cases d with
  | tup ds =>
    simp only [eV, Bool.and_eq_true] at h
    obtain ⟨ns, rfl, hn⟩ := mX h.1.2
    exact ⟨ns, rfl, hn, by have := hk.2; rwa [List.length_map] at this⟩
  | _ => cases h
noncomputable def AR (CS CW : Addr) : dj := fun ds M Q E => ∃ af n d1 d2, ds = [eN af, d1, d2] ∧ cA af n ∧ mY d1 ∧ lM d2 ∧ (eV af.length d1 = true → cm n d2 = true → ∀ ns, Q (eI ns) M) ∧ (eV af.length d1 = false → E CS M) ∧ (eV af.length d1 = true → cm n d2 = false → E CW M)
theorem CO {f f1 f2 f3 f4 : Addr} {fd bp fd2 iG rK : FuncData} (D : Df K mg "image" ku ["net", "places", "word"] f fd)
    (bu : Df K mg "need_net" fc ["thing"] f1 bp) (cR : FnOk P w K mg base (cC P w) 7 f1 bp ["thing"] (bh P w K tb (sG C_NoNet)))
    (bY : Df K mg "need_word" fL ["net", "thing"] f2 fd2) (eE : FnOk P w K mg base (cC P w) 10 f2 fd2 ["net", "thing"] (bh P w K tb (mV C_NoWord)))
    (fh : Df K mg "need_set" iT ["net", "thing"] f3 iG) (lx : FnOk P w K mg base (cC P w) 6 f3 iG ["net", "thing"] (bh P w K tb (uN C_NoSet)))
    (de : Df K mg "end_of" jE ["net", "place", "word"] f4 rK) (gW : FnOk P w K mg base bz 1 f4 rK ["net", "place", "word"] (bh P w K tb zEnd)) (bl : Bl mg) :
    FnOk P w K mg base (cC P w) 11 f fd ["net", "places", "word"] (bh P w K tb (AR C_NoSet C_NoWord)) := by
  refine iP D CJ (fun ds M Q E hS => by obtain ⟨af, n, d1, d2, e, _⟩ := hS; rw [e]; rfl) fun A outer s E Γ ds Q' E' hP hw hK ht hE hr hS => ?_
  obtain ⟨af, n, d1, d2, e, o, Ls, Pa, q, q1, q2⟩ := hS
  refine ⟨_, (az (eA (aE cR (hr.mono (by decide)) rfl bu.mg bu.fn.kp bu.bd gZ hP hw hK ht hE (aa (qv 0) ah)))
    (az (eA (aE lx (hr.mono (by decide)) rfl fh.mg fh.fn.kp fh.bd gZ hP hw hK ht hE (aa (qv 0) (aa (qv 1) ah))))
    (az (eA (aE eE (hr.mono (by decide)) rfl bY.mg bY.fn.kp bY.bd gZ hP hw hK ht hE (aa (qv 0) (aa (qv 2) ah))))
    (ay (bj (gq (E1 (K := K) rfl) rfl bl.tuple_ dU (aa (aF (uq hP hw (K := K) rfl rfl) rfl bl.sorted_ ra (aa (xP hP hw (N' := ["place", "net", "word"]) (tn := 1) (idx := [0, 2]) rfl (show aO ["net", "places", "word"] (ak ku) _ ["place", "net", "word"] 1 [0, 2] from by decide +kernel) (kn (K := K) rfl (qv 1)) (fun _ _ _ _ _ => (cZ (i := 0) (show List.Nodup [("place" : Str), ("net" : Str), ("word" : Str)] from by decide +kernel) rfl (Or.inl rfl))) (fun _ _ _ _ _ => e8) (fun _ _ _ _ _ => (aE gW (hr.mono (by decide)) rfl de.mg de.fn.kp de.bd bt hP hw hK ht XR.none (aa (qv 1) (aa (qv 0) (aa (qv 2) ah)))))) ah)) ah))))))), ?_⟩
  subst e
  refine ⟨_, rfl, qu af, fun _ => ?_, fun h => by rw [qt o] at h; cases h⟩
  simp! only []
  refine ⟨af, n, d1, rfl, o, Ls, fun hs => ?_, q1⟩
  refine ⟨af, n, d2, rfl, o, Pa, fun iH => ?_, q2 hs⟩
  have qq := q hs iH
  obtain ⟨z, rfl, hW, hl⟩ := lj o.wid iH
  obtain ⟨ns, rfl, hn, Pb⟩ := CN Ls hs
  simp! only []
  refine wz (fun d => match d with | .int p => gV af p z.cps.toList | _ => 0) (fun τ M => (∃ x, τ = [x, some (eN af), some (.str z)]) ∧ M = Γ.M0) ⟨⟨_, rfl⟩, rfl⟩ (Nat.lt_of_le_of_lt (show _ ≤ 21 by simp only [List.length_nil, List.length_map]; omega) (by decide)) (fun d hd τ M ⟨⟨x, e⟩, eM⟩ R hR => ?_) (fun τ M ⟨⟨x, e⟩, eM⟩ => ?_)
  · subst e eM
    obtain ⟨p, hp, rfl⟩ := List.mem_map.mp hd
    obtain ⟨p0, p1⟩ := hn p hp
    exact ⟨af, n, _, z, rfl, o, p0, p1, hW, hR _ _ ⟨⟨_, rfl⟩, rfl⟩⟩
  · subst e eM
    have Qk : (((ns.map Dv.int).map (fun d => match d with | .int p => gV af p z.cps.toList | _ => 0)).foldl cF []).length ≤ 20 := by
      have := n9 ((ns.map Dv.int).map (fun d => match d with | .int p => gV af p z.cps.toList | _ => 0))
      rw [List.length_map, List.length_map] at this
      exact Nat.le_trans this Pb
    exact ⟨by omega, .inl (qq _)⟩
noncomputable def D1 (C : Addr) : dj := fun ds M Q E => ∃ af n d, ds = [eN af, d] ∧ cA af n ∧ lM d ∧ (cm n d = true → ∀ i : Int, Q (.int i) M) ∧ (cm n d = false → E C M)
theorem Fj {f f1 : Addr} {fd bp : FuncData} (D : Df K mg "left" pK ["net", "word"] f fd) (bN : Df K mg "map_of" gb ["net", "word"] f1 bp) (dY : FnOk P w K mg base (cC P w) 11 f1 bp ["net", "word"] (bh P w K tb (pN C_NoWord))) (bl : Bl mg) :
    FnOk P w K mg base (cC P w) 12 f fd ["net", "word"] (bh P w K tb (D1 C_NoWord)) := by
  refine iP D Fe (fun ds M Q E hS => by obtain ⟨af, n, d, e, _⟩ := hS; rw [e]; rfl) fun A outer s E Γ ds Q' E' hP hw hK ht hE hr hS => ?_
  obtain ⟨af, n, d, e, o, hk, q, q2⟩ := hS
  refine ⟨_, (ay (bj (aF (HR hP hw) rfl bl.len_ PySem.boot_len (aa (gq (DS hP hw (K := K) rfl rfl) rfl bl.set_ zI (aa (aE dY (hr.mono (by decide)) rfl bN.mg bN.fn.kp bN.bd gZ hP hw hK ht hE (aa (qv 0) (aa (qv 1) ah))) ah)) ah)))), ?_⟩
  subst e
  simp! only []
  refine ⟨af, n, d, rfl, o, hk, fun z ez hW hl => ?_, q2⟩
  subst ez
  have q := q (lh o.wid hW hl)
  have ml := oA af z
  have h9 := o.nine
  simp! only [dQ, Option.bind_some]
  exact ⟨Nat.lt_of_le_of_lt (show (lq af z).length + 1 ≤ 21 by omega) (by decide), .inl (q _)⟩
end
section
variable {P : Program} {w : World} {K : PySem.W.Frag} {mg : Str → Option Value} {base : Heap} {tb : cU} {C_RoadError C_NoNet C_NoPlace C_NoSign C_NoWord C_NoWhole C_NoSet C_TooMany : Addr} {cs : List Addr}
theorem ky : aJ ["_law_what", "_law_net_here", "_law_places_here", "_law_word_here", "e"] ["_law_what", "_law_net_here", "_law_places_here", "_law_word_here"] (ak fR) := ⟨rfl, rfl, rfl, by decide +kernel, rfl, by decide +kernel, by decide +kernel⟩
noncomputable def j7 (what : Int) (s w : Bool) : Str := if what = 0 then (if s then (if w then "told" else "word") else "set") else (if w then "told" else "word")
noncomputable def qA : dj := fun ds M Q _ => ∃ what af n d1 d2, ds = [.int what, eN af, d1, d2] ∧ cA af n ∧ mY d1 ∧ lM d2 ∧ Q (.str (j7 what (eV af.length d1) (cm n d2))) M
theorem rY {f f1 f2 f3 f4 : Addr} {fd bp fd2 iG rK : FuncData} (D : Df K mg "_law_answer" fR ["_law_what", "_law_net_here", "_law_places_here", "_law_word_here"] f fd)
    (iX : Df K mg "image" ku ["net", "places", "word"] f1 bp) (qB : FnOk P w K mg base (cC P w) 11 f1 bp ["net", "places", "word"] (bh P w K tb (AR C_NoSet C_NoWord)))
    (kz : Df K mg "left" pK ["net", "word"] f2 fd2) (uO : FnOk P w K mg base (cC P w) 12 f2 fd2 ["net", "word"] (bh P w K tb (D1 C_NoWord)))
    (bN : Df K mg "map_of" gb ["net", "word"] f3 iG) (dY : FnOk P w K mg base (cC P w) 11 f3 iG ["net", "word"] (bh P w K tb (pN C_NoWord)))
    (cQ : Df K mg "comes_round" ef ["net", "word"] f4 rK) (iz : FnOk P w K mg base (cC P w) 12 f4 rK ["net", "word"] (bh P w K tb (AG C_NoWord)))
    (X_ : oi K C_RoadError cs) (iV : C_NoNet ∈ cs) (mZ : C_NoPlace ∈ cs) (oC : C_NoSign ∈ cs) (bR : C_NoWord ∈ cs) (m4 : C_NoWhole ∈ cs) (c0 : C_NoSet ∈ cs) (m5 : C_TooMany ∈ cs) (nd : [C_NoNet, C_NoPlace, C_NoSign, C_NoWord, C_NoWhole, C_NoSet, C_TooMany].Nodup)
    (j8 : mg "RoadError" = some (.ref C_RoadError)) (iW : mg "NoNet" = some (.ref C_NoNet)) (m6 : mg "NoPlace" = some (.ref C_NoPlace)) (oE : mg "NoSign" = some (.ref C_NoSign)) (gU : mg "NoWord" = some (.ref C_NoWord)) (m7 : mg "NoWhole" = some (.ref C_NoWhole)) (gX : mg "NoSet" = some (.ref C_NoSet)) (m8 : mg "TooMany" = some (.ref C_TooMany)) (bl : Bl mg) :
    FnOk P w K mg base bz 13 f fd ["_law_what", "_law_net_here", "_law_places_here", "_law_word_here"] (bh P w K tb qA) := by
  refine ix D ky (fun ds M Q E hS => by obtain ⟨what, af, n, d1, d2, e, _⟩ := hS; rw [e]; rfl) fun A outer s E Γ ds Q' E' hP hw hK ht hr hS => ?_
  obtain ⟨what, af, n, d1, d2, e, O, k1, k2, q⟩ := hS
  refine ⟨_, (az (HW (i := 4) (nn := 5) rfl ky.nd rfl rfl ⟨rfl, rfl⟩ rfl X_.top rfl j8 (fun T pn EE E2 DX Pg Ph Pj DC hp D2 => by
      have hP := hP.trans Pg.symm
      have hw := hw.trans Ph.symm
      have hK := hK.trans Pj.symm
      have ht := ht.trans DC.symm
      exact (ay (dD (dn uk (qv 0) aU (bU _))
      (ay (eA (aE qB (hr.mono (by decide)) rfl iX.mg iX.fn.kp iX.bd hp hP hw hK ht D2 (aa (qv 1) (aa (qv 2) (aa (qv 3) ah))))))
      (ay (dD (dn uk (qv 0) aU (bU _))
      (ay (eA (aE uO (hr.mono (by decide)) rfl kz.mg kz.fn.kp kz.bd hp hP hw hK ht D2 (aa (qv 1) (aa (qv 3) ah)))))
      (ay (dD (dn uk (qv 0) aU (bU _))
      (ay (eA (aE dY (hr.mono (by decide)) rfl bN.mg bN.fn.kp bN.bd hp hP hw hK ht D2 (aa (qv 1) (aa (qv 3) ah)))))
      (ay (eA (aE iz (hr.mono (by decide)) rfl cQ.mg cQ.fn.kp cQ.bd hp hP hw hK ht D2 (aa (qv 1) (aa (qv 3) ah))))))))))))
      (fun ea => (az (dD (QW.pt (nE (fI (aF (pD (K := K) rfl) rfl bl.isinstance_ bE (aa (qv 4) (aa (c9 (aa (eS (v := .ref C_NoNet) rfl iW rfl) (aa (eS (v := .ref C_NoPlace) rfl m6 rfl) (aa (eS (v := .ref C_NoSign) rfl oE rfl) (aa (eS (v := .ref C_NoWhole) rfl m7 rfl) (aa (eS (v := .ref C_TooMany) rfl m8 rfl) ah)))))) ah)))) (km (gB (fI (aF (pD (K := K) rfl) rfl bl.isinstance_ bE (aa (qv 4) (aa (gO (v := .ty "ValueError") rfl bl.ValueError_ rO rfl) ah))))))))
      (ay (bj bJ))
      qss_nil)
    (az (dD (dn uk (aF (pD (K := K) rfl) rfl bl.isinstance_ bE (aa (qv 4) (aa (eS (v := .ref C_NoSet) rfl gX rfl) ah))) (aF (pD (K := K) rfl) rfl bl.isinstance_ bE (aa (qv 4) (aa (eS (v := .ref C_NoWord) rfl gU rfl) ah))) (bU _))
      (ay (bj bJ))
      qss_nil)
    (ay (bj (fP (iw (K := K) rfl) (ik (aa bJ (aa bJ ah))) (gq HQ rfl bl.int_ zh (aa (aF (pD (K := K) rfl) rfl bl.isinstance_ bE (aa (qv 4) (aa (eS (v := .ref C_NoSet) rfl gX rfl) ah))) ah)) (fun _ _ => rfl))))))))
    (ay (bj bJ))), ?_⟩
  subst e
  have Lv : C_NoSet ≠ C_NoWord := fun z => by simp [z] at nd
  have Lw : ∀ D ∈ [C_NoNet, C_NoPlace, C_NoSign, C_NoWhole, C_TooMany], D ∈ cs := by simp [iV, mZ, oC, m4, m5]
  have aS : PySem.W.kitAny K (.ref C_NoSet) ([C_NoNet, C_NoPlace, C_NoSign, C_NoWhole, C_TooMany].map Value.ref) = some false := by
    rw [X_.any c0 Lw]
    congr 1
    refine decide_eq_false fun z => ?_
    simp only [List.mem_cons, List.not_mem_nil, or_false] at z
    rcases z with z | z | z | z | z <;> simp [z] at nd
  have aW : PySem.W.kitAny K (.ref C_NoWord) ([C_NoNet, C_NoPlace, C_NoSign, C_NoWhole, C_TooMany].map Value.ref) = some false := by
    rw [X_.any bR Lw]
    congr 1
    refine decide_eq_false fun z => ?_
    simp only [List.mem_cons, List.not_mem_nil, or_false] at z
    rcases z with z | z | z | z | z <;> simp [z] at nd
  simp only [List.map_cons, List.map_nil] at aS aW
  have cS := X_.cl _ c0
  have cW := X_.cl _ bR
  have Pk : PySem.W.kitOne K (.ref C_NoSet) (.ref C_NoSet) = some true := by rw [X_.one _ c0 _ c0, decide_eq_true rfl]
  have Pl : PySem.W.kitOne K (.ref C_NoSet) (.ref C_NoWord) = some false := by rw [X_.one _ c0 _ bR, decide_eq_false Lv]
  have D3 : PySem.W.kitOne K (.ref C_NoWord) (.ref C_NoSet) = some false := by rw [X_.one _ bR _ c0, decide_eq_false (Ne.symm Lv)]
  have D4 : PySem.W.kitOne K (.ref C_NoWord) (.ref C_NoWord) = some true := by rw [X_.one _ bR _ bR, decide_eq_true rfl]
  have vS := X_.val _ c0
  have vW := X_.val _ bR
  simp! only []
  refine jA (fun h => ?_) (fun h => ?_)
  · have h0 : what = 0 := of_decide_eq_true h
    refine ⟨af, n, d1, d2, rfl, O, k1, k2, fun hs iH ns => ?_, fun hs => ⟨X_.sub _ c0, by decide, cS, [C_NoNet, C_NoPlace, C_NoSign, C_NoWhole, C_TooMany], rfl, ?_⟩, fun hs iH => ⟨X_.sub _ bR, by decide, cW, [C_NoNet, C_NoPlace, C_NoSign, C_NoWhole, C_TooMany], rfl, ?_⟩⟩
    · rw [j7, if_pos h0, hs, iH] at q
      exact .inl q
    · rw [j7, if_pos h0, hs] at q
      simp! only [aS, Pk, Pl, vS, reduceCtorEq]
      exact ⟨cS, cS, cS, by decide, cS, .inl q⟩
    · rw [j7, if_pos h0, hs, iH] at q
      simp! only [aW, D3, D4, vW]
      exact ⟨cW, cW, cW, by decide, cW, .inl q⟩
  · have h0 : what ≠ 0 := of_decide_eq_false h
    rw [j7, if_neg h0] at q
    refine jA (fun h => ?_) (fun h => jA (fun h => ?_) (fun h => ?_))
    · refine ⟨af, n, d2, rfl, O, k2, fun iH i => ?_, fun iH => ⟨X_.sub _ bR, by decide, cW, [C_NoNet, C_NoPlace, C_NoSign, C_NoWhole, C_TooMany], rfl, ?_⟩⟩
      · rw [iH] at q; exact .inl q
      · rw [iH] at q
        simp! only [aW, D3, D4, vW]
        exact ⟨cW, cW, cW, by decide, cW, .inl q⟩
    · refine ⟨af, n, d2, rfl, O, k2, fun z ez hW hl => ?_, fun iH => ⟨X_.sub _ bR, by decide, cW, [C_NoNet, C_NoPlace, C_NoSign, C_NoWhole, C_TooMany], rfl, ?_⟩⟩
      · subst ez; rw [lh O.wid hW hl] at q; exact .inl q
      · rw [iH] at q
        simp! only [aW, D3, D4, vW]
        exact ⟨cW, cW, cW, by decide, cW, .inl q⟩
    · refine ⟨af, n, d2, rfl, O, k2, fun z ez hW hl i j _ => ?_, fun iH => ⟨X_.sub _ bR, by decide, cW, [C_NoNet, C_NoPlace, C_NoSign, C_NoWhole, C_TooMany], rfl, ?_⟩⟩
      · subst ez; rw [lh O.wid hW hl] at q; exact .inl q
      · rw [iH] at q
        simp! only [aW, D3, D4, vW]
        exact ⟨cW, cW, cW, by decide, cW, .inl q⟩
end
section
variable {P : Program} {w : World} {K : PySem.W.Frag} {mg : Str → Option Value} {base : Heap} {tb : List Addr}
theorem dA : aJ ["_law_script", "_law_at", "_law_cell", "_law_mix", "_law_k"] ["_law_script", "_law_at"] (ak iU) := ⟨rfl, rfl, rfl, by decide +kernel, rfl, by decide +kernel, by decide +kernel⟩
theorem dM : aJ ["_law_bag_here", "_law_many", "_law_digit", "_law_number", "_law_room"] ["_law_bag_here", "_law_many"] (ak cI) := ⟨rfl, rfl, rfl, by decide +kernel, rfl, by decide +kernel, by decide +kernel⟩
theorem fU : aJ ["_law_bag_here", "_law_many", "_law_rest", "_law_found", "_law_k"] ["_law_bag_here", "_law_many"] (ak gE) := ⟨rfl, rfl, rfl, by decide +kernel, rfl, by decide +kernel, by decide +kernel⟩
theorem bA : aJ ["_law_bag_here", "_law_most", "_law_many", "_law_fans", "_law_kind", "_law_lap", "_law_order_here", "_law_rows", "_law_k", "_law_goals", "_law_fan"] ["_law_bag_here", "_law_most"] (ak dX) := ⟨rfl, rfl, rfl, by decide +kernel, rfl, by decide +kernel, by decide +kernel⟩
noncomputable def D5 (K : PySem.W.Frag) : Sp := fun vs H Q _ => ∃ (a : Addr) (ns : List Int) (t : Int), vs = [.ref a, .int t] ∧ a8 K H a (ns.map V.int) ∧ ns.length ≤ 63 ∧ 0 ≤ t ∧ t ≤ 63 ∧ ∀ b H', H b = none → bq H H' → bH H' b → Q (.ref b) H'
theorem yb {f : Addr} {fd : FuncData} (D : Df K mg "_law_bag" iU ["_law_script", "_law_at"] f fd) (bl : Bl mg) : FnOk P w K mg base bz 1 f fd ["_law_script", "_law_at"] (D5 K) := by
  refine D.fn.ok dA (fun vs H Q E h => ?_) (fun cy A outer s H vs Q E hr h => ?_)
  · obtain ⟨a, ns, t, rfl, _⟩ := h
    rfl
  · obtain ⟨a, ns, t, rfl, hS, Ql, t0, t1, q⟩ := h
    have hl : (ns.map V.int).length = ns.length := List.length_map _
    refine Ho.run (Pre := fun σ H1 => H1 = H ∧ σ = [some (.ref a), some (.int t), none, none, none]) ⟨rfl, rfl⟩ ?_
    refine Ho.cons (fun σ H1 => H1 = H ∧ σ = [some (.ref a), some (.int t), some (.int 0), none, none]) ⟨_, (bT (i := 2) dA.nd rfl (Or.inl rfl) aA), ?_⟩ ?_
    · rintro N σ H1 ⟨rfl, rfl⟩ k
      exact k _ _ ⟨rfl, rfl⟩
    refine Ho.cons (fun σ H1 => H1 = H ∧ ∃ c : Int, 0 ≤ c ∧ σ = [some (.ref a), some (.int t), some (.int c), none, none]) ⟨_, (kG (ej su (pv 1) (eR (fO (K := K) rfl) rfl bl.len_ PySem.boot_len (aw (pv 0) aN)) (bU _))
      (cg (bT (i := 2) dA.nd rfl (Or.inl rfl) (eR Bv rfl bl.abs_ G2 (aw (dg (bM (K := K) rfl) (pv 0) (pv 1) (fun _ _ => rfl)) aN))))
      pss_nil), ?_⟩ ?_
    · rintro N σ H1 ⟨rfl, rfl⟩ k
      refine ⟨_, rfl, _, rfl, a, _, rfl, .inl hS, _, _, rfl, rfl, _, rfl, ?_⟩
      refine kJ (fun c => ?_) (fun c => ?_)
      · have c' : t < ((ns.map V.int).length : Nat) := of_decide_eq_true c
        rw [hl] at c'
        obtain ⟨v, hv, _⟩ := jn (ns := ns) t0 c'
        refine ⟨_, rfl, _, rfl, a, _, _, _, rfl, rfl, hS, hv, v, rfl, k _ _ ⟨rfl, _, ?_, rfl⟩⟩
        split <;> omega
      · exact k _ _ ⟨rfl, 0, Int.le_refl _, rfl⟩
    refine Ho.cons (fun σ H1 => H1 = H ∧ ∃ c m : Int, 0 ≤ c ∧ 0 ≤ m ∧ σ = [some (.ref a), some (.int t), some (.int c), some (.int m), none]) ⟨_, (bT (i := 3) dA.nd rfl (Or.inl rfl) (bf eO (bf ja aA (pv 1)) aA)), ?_⟩ ?_
    · rintro N σ H1 ⟨rfl, c, hc, rfl⟩ k
      exact ⟨_, rfl, _, _, rfl, rfl, .inl ⟨by decide, by decide⟩, _, _, rfl, rfl, k _ _ ⟨rfl, c, _, hc, by omega, rfl⟩⟩
    refine Ho.cons (fun σ H1 => H1 = H ∧ ∃ c m : Int, ∃ v, 0 ≤ c ∧ 0 ≤ m ∧ σ = [some (.ref a), some (.int t), some (.int c), some (.int m), v]) ⟨_, (i9 PassesOwn.never rfl (cT rfl bl.range_ (aw (eR (lX rfl) rfl bl.min_ tI (aw (eR (fO (K := K) rfl) rfl bl.len_ PySem.boot_len (aw (pv 0) aN)) (aw aA aN))) aN)) (dE (i := 4) dA.nd rfl (Or.inl rfl))
      (cg (bT (i := 3) dA.nd rfl (Or.inl rfl) (bf hU (bf eO (bf eO (bf ja (pv 3) aA) (bf hU (dg (bM (K := K) rfl) (pv 0) (pv 4) (fun _ _ => rfl)) aA)) (pv 4)) aA)))), ?_⟩ ?_
    · rintro N σ H1 ⟨rfl, c, m, hc, hm, rfl⟩ k
      refine ⟨_, rfl, a, _, rfl, .inl hS, _, _, rfl, _, rfl, by split <;> omega, by split <;> omega, ?_⟩
      refine kc (fun i σ H2 => H2 = H1 ∧ ∃ c m : Int, ∃ v, 0 ≤ c ∧ 0 ≤ m ∧ σ = [some (.ref a), some (.int t), some (.int c), some (.int m), v]) ⟨rfl, c, m, none, hc, hm, rfl⟩ (fun _ _ _ _ _ => cH) ?_ (fun σ H2 h => k _ _ h)
      rintro i x σ H2 hx ⟨rfl, c, m, v, hc, hm, rfl⟩
      have hi : i < (List.range (if (60 : Int) < ((ns.map V.int).length : Nat) then (60 : Int) else ((ns.map V.int).length : Nat)).toNat).length := by
        have := (List.getElem?_eq_some_iff.mp hx).1
        simpa using this
      rw [List.length_range] at hi
      have lH : i < ns.length := by
        rw [hl] at hi
        split at hi <;> omega
      obtain rfl : x = .int (0 + (i : Nat)) := by
        rw [List.getElem?_map, List.getElem?_range hi] at hx
        exact (Option.some.inj hx).symm
      obtain ⟨u, hu, _⟩ := jn (ns := ns) (i := 0 + (i : Nat)) (by omega) (by omega)
      refine ⟨_, rfl, _, _, rfl, rfl, .inr ⟨by decide, by decide⟩, _, rfl, _, rfl, a, _, _, _, rfl, rfl, hS, hu, _, _, rfl, rfl, (by show (0 : Int) < 2147483647; decide), _, _, rfl, rfl, _, rfl, _, _, rfl, rfl, _, _, rfl, rfl, (by show (0 : Int) < 2147483629; decide), ?_⟩
      exact ⟨rfl, c, _, _, hc, Int.emod_nonneg _ (by decide), rfl⟩
    refine Ho.cons (fun σ H1 => H1 = H ∧ ∃ c m : Int, ∃ v, 0 ≤ c ∧ 0 ≤ m ∧ σ = [some (.ref a), some (.int t), some (.int c), some (.int m), v]) ⟨_, (kG (ej su (pv 2) (bf yL aA aA) (bU _))
      (cg (bT (i := 2) dA.nd rfl (Or.inl rfl) aA))
      pss_nil), ?_⟩ ?_
    · rintro N σ H1 ⟨rfl, c, m, v, hc, hm, rfl⟩ k
      refine ⟨_, rfl, _, _, rfl, rfl, ⟨by decide, by decide, by decide⟩, _, _, rfl, rfl, _, rfl, ?_⟩
      refine kJ (fun _ => ?_) (fun _ => ?_)
      · exact k _ _ ⟨rfl, 0, m, v, Int.le_refl _, hm, rfl⟩
      · exact k _ _ ⟨rfl, c, m, v, hc, hm, rfl⟩
    refine Ho.last ⟨_, (i7 (lY (aw (pv 2) (aw (pv 3) aN)))), ?_⟩
    rintro σ H1 ⟨rfl, c, m, v, hc, hm, rfl⟩
    refine ⟨_, rfl, _, rfl, (by show 2 ≤ sizeLine; decide), fun b hb => ?_⟩
    exact q b _ hb (.new hb _) ⟨c, m, aj, hc, hm⟩
end
section
variable {P : Program} {w : World} {K : PySem.W.Frag} {mg : Str → Option Value} {base : Heap} {tb : List Addr}
noncomputable def ng : Sp := fun vs H Q _ => ∃ (b : Addr) (n : Int), vs = [.ref b, .int n] ∧ bH H b ∧ 1 ≤ n ∧ n < 1073741824 ∧ ∀ (d : Int) (H' : Hp), 0 ≤ d → d < n → aM b H H' → bH H' b → Q (.int d) H'
theorem g7 {f : Addr} {fd : FuncData} (D : Df K mg "_law_take" cI ["_law_bag_here", "_law_many"] f fd) : FnOk P w K mg base bz 1 f fd ["_law_bag_here", "_law_many"] ng := by
  refine D.fn.ok dM (fun vs H Q E h => ?_) (fun cy A outer s H vs Q E hr h => ?_)
  · obtain ⟨b, n, rfl, _⟩ := h
    rfl
  · obtain ⟨b, n, rfl, ⟨c, m, hb, hc, hm⟩, n1, n2, q⟩ := h
    refine Ho.run (Pre := fun σ H1 => H1 = H ∧ σ = [some (.ref b), some (.int n), none, none, none]) ⟨rfl, rfl⟩ ?_
    refine Ho.cons (fun σ H1 => H1 = H ∧ σ = [some (.ref b), some (.int n), none, none, none]) ⟨_, (kG (ej wV (dg (bM (K := K) rfl) (pv 0) aA (fun _ _ => rfl)) aA (bU _))
      (cE (bT (i := 2) dM.nd rfl (Or.inl rfl) (bf hU (dg (bM (K := K) rfl) (pv 0) aA (fun _ _ => rfl)) (pv 1)))
    (cE (lR (bf p7 (dg (bM (K := K) rfl) (pv 0) aA (fun _ _ => rfl)) (pv 1)) (lQ (pv 0) aA set_list))
    (cg (i7 (pv 2)))))
      pss_nil), ?_⟩ ?_
    · rintro N σ H1 ⟨rfl, rfl⟩ k
      refine ⟨_, rfl, b, _, _, _, rfl, rfl, a8.of hb, cN (j := 0) rfl, _, _, rfl, rfl, _, rfl, ?_⟩
      refine kJ (fun c1 => ?_) (fun _ => k _ _ ⟨rfl, rfl⟩)
      refine ⟨_, rfl, b, _, _, _, rfl, rfl, a8.of hb, cN (j := 0) rfl, _, rfl, _, _, rfl, rfl, (by show (0 : Int) < n; omega), ?_⟩
      refine ⟨_, rfl, b, _, _, _, rfl, rfl, a8.of hb, cN (j := 0) rfl, _, rfl, _, _, rfl, rfl, ⟨by omega, n2⟩, _, rfl, b, _, _, 0, rfl, rfl, hb, rfl, ?_⟩
      exact ⟨_, rfl, q _ _ (Int.emod_nonneg _ (by omega)) (Int.emod_lt_of_pos _ (by omega)) .upd ⟨c / n, m, aj, Int.ediv_nonneg hc (by omega), hm⟩⟩
    refine Ho.cons (fun σ H1 => H1 = H ∧ σ = [some (.ref b), some (.int n), none, some (.int 0), none]) ⟨_, (bT (i := 3) dM.nd rfl (Or.inl rfl) aA), ?_⟩ ?_
    · rintro N σ H1 ⟨rfl, rfl⟩ k
      exact k _ _ ⟨rfl, rfl⟩
    refine Ho.cons (fun σ H1 => H1 = H ∧ σ = [some (.ref b), some (.int n), none, some (.int 0), some (.int 1)]) ⟨_, (bT (i := 4) dM.nd rfl (Or.inl rfl) aA), ?_⟩ ?_
    · rintro N σ H1 ⟨rfl, rfl⟩ k
      exact k _ _ ⟨rfl, rfl⟩
    refine Ho.cons (fun σ H1 => aM b H H1 ∧ bH H1 b ∧ ∃ num room : Int, 0 ≤ num ∧ σ = [some (.ref b), some (.int n), none, some (.int num), some (.int room)]) ⟨_, (sS PassesOwn.never (ej su (pv 4) (pv 1) (bU _))
      (cE (lR (bf hU (bf eO (bf ja (dg (bM (K := K) rfl) (pv 0) aA (fun _ _ => rfl)) aA) aA) aA) (lQ (pv 0) aA set_list))
    (cE (bT (i := 3) dM.nd rfl (Or.inl rfl) (bf eO (bf ja (pv 3) aA) (bf hU (bf ja (bf p7 (dg (bM (K := K) rfl) (pv 0) aA (fun _ _ => rfl)) aA) aA) aA)))
    (cg (bT (i := 4) dM.nd rfl (Or.inl rfl) (bf ja (pv 4) aA)))))), ?_⟩ ?_
    · rintro N σ H1 ⟨rfl, rfl⟩ k
      refine Bm (fun σ H2 => aM b H1 H2 ∧ bH H2 b ∧ ∃ num room : Int, 0 ≤ num ∧ 1 ≤ room ∧ σ = [some (.ref b), some (.int n), none, some (.int num), some (.int room)])
        (fun (σ : L2.St) _ => match σ[4]? with | some (some (V.int r)) => (n - r).toNat | _ => 0) ⟨.refl _ _, ⟨c, m, hb, hc, hm⟩, 0, 1, Int.le_refl _, Int.le_refl _, rfl⟩ ?_ ?_
      · rintro σ H2 ⟨k2, ⟨c2, m2, nR, qP, Pm⟩, num, room, h1, h2, rfl⟩
        refine ⟨_, rfl, _, rfl, _, _, rfl, rfl, _, rfl, ?_⟩
        refine kJ (fun c1 => ?_) (fun _ => k _ _ ⟨k2, ⟨c2, m2, nR, qP, Pm⟩, num, room, h1, rfl⟩)
        have Qm : room < n := of_decide_eq_true c1
        refine ⟨_, rfl, b, _, _, _, rfl, rfl, a8.of nR, cN (j := 1) rfl, _, _, rfl, rfl, .inr ⟨by decide, by decide⟩, _, _, rfl, rfl, _, _, rfl, rfl, (by show (0 : Int) < 2147483647; decide), _, rfl, b, _, _, 1, rfl, rfl, nR, rfl, ?_⟩
        have m3 : 0 ≤ (m2 * 48271 + 7919) % 2147483647 := Int.emod_nonneg _ (by decide)
        refine ⟨_, rfl, _, _, rfl, rfl, .inr ⟨by decide, by decide⟩, _, rfl, b, _, _, _, rfl, rfl, a8.of aj, cN (j := 1) rfl, _, _, rfl, rfl, ⟨by decide, by decide⟩, _, _, rfl, rfl, .inr ⟨by decide, by decide⟩, _, _, rfl, rfl, (by show (0 : Int) < 1073741789; decide), _, _, rfl, rfl, ?_⟩
        have n3 : 0 ≤ (m2 * 48271 + 7919) % 2147483647 / 8 * 69621 % 1073741789 := Int.emod_nonneg _ (by decide)
        refine ⟨_, rfl, _, _, rfl, rfl, .inr ⟨by decide, by decide⟩, ?_⟩
        refine ⟨⟨k2.trans .upd, ⟨c2, _, aj, qP, m3⟩, _, _, ?_, ?_, rfl⟩, ?_⟩
        · omega
        · omega
        · show (n - room * 1073741789).toNat < (n - room).toNat
          omega
      · rintro σ H2 Q1 Q2 hQ ⟨v, e, v', e', i, j, r1, r2, kk, r3, z⟩
        exact ⟨v, e, v', e', i, j, r1, r2, kk, r3, hQ _ _ z⟩
    refine Ho.last ⟨_, (i7 (bf hU (pv 3) (pv 1))), ?_⟩
    rintro σ H1 ⟨k1, hB, num, room, h1, rfl⟩
    exact ⟨_, rfl, _, rfl, _, _, rfl, rfl, (by show (0 : Int) < n; omega), q _ _ (Int.emod_nonneg _ (by omega)) (Int.emod_lt_of_pos _ (by omega)) k1 hB⟩
end
section
variable {P : Program} {w : World} {K : PySem.W.Frag} {mg : Str → Option Value} {base : Heap} {tb : List Addr}
theorem rL {α β : Type} (f : α → β) : ∀ (l : List α) (i : Nat), (l.map f).eraseIdx i = (l.eraseIdx i).map f
  | [], _ => rfl
  | _ :: _, 0 => rfl
  | a :: l, i + 1 => by
    show f a :: (l.map f).eraseIdx i = f a :: (l.eraseIdx i).map f
    rw [rL f l i]
theorem eY {α : Type} : ∀ (l : List α) (i : Nat) (h : i < l.length), (l[i] :: l.eraseIdx i).Perm l
  | a :: l, 0, _ => .refl _
  | a :: l, i + 1, h => by
    have h' : i < l.length := by simpa using h
    show (l[i] :: a :: l.eraseIdx i).Perm (a :: l)
    exact (List.Perm.swap a l[i] _).trans ((eY l i h').cons a)
structure c4 (n : Nat) (os : List Int) : Prop where
  perm : os.Perm ((List.range n).map fun i : Nat => (i : Int))
theorem c4.len {n : Nat} {os : List Int} (h : c4 n os) : os.length = n := by
  have := h.perm.length_eq
  simpa using this
theorem c4.mem {n : Nat} {os : List Int} (h : c4 n os) {x : Int} (hx : x ∈ os) : 0 ≤ x ∧ x < n := by
  have := h.perm.mem_iff.mp hx
  obtain ⟨i, hi, rfl⟩ := List.mem_map.mp this
  have := List.mem_range.mp hi
  omega
theorem c4.nodup {n : Nat} {os : List Int} (h : c4 n os) : os.Nodup := by
  refine h.perm.nodup_iff.mpr ?_
  exact List.pairwise_map.mpr (List.nodup_range.imp fun h e => h (by omega))
theorem c4.all {n : Nat} {os : List Int} (h : c4 n os) {i : Nat} (hi : i < n) : (i : Int) ∈ os := h.perm.mem_iff.mpr (List.mem_map.mpr ⟨i, List.mem_range.mpr hi, rfl⟩)
noncomputable def wI : Sp := fun vs H Q _ => ∃ (b : Addr) (n : Nat), vs = [.ref b, .int (n : Nat)] ∧ bH H b ∧ n ≤ 100 ∧ ∀ (o : Addr) (os : List Int) (H' : Hp), H o = none → c4 n os → aM b H H' → bH H' b → H' o = some (.lst (os.map V.int)) → Q (.ref o) H'
theorem uP {f f1 : Addr} {fd bp : FuncData} (D : Df K mg "_law_order" gE ["_law_bag_here", "_law_many"] f fd) (ai : Df K mg "_law_take" cI ["_law_bag_here", "_law_many"] f1 bp) (bl : Bl mg) : FnOk P w K mg base bz 2 f fd ["_law_bag_here", "_law_many"] wI := by
  have aV : FnOk P w K mg base bz 1 f1 bp ["_law_bag_here", "_law_many"] ng := g7 ai
  refine D.fn.ok fU (fun vs H Q E h => ?_) (fun cy A outer s H vs Q E hr h => ?_)
  · obtain ⟨b, n, rfl, _⟩ := h
    rfl
  · obtain ⟨b, n, rfl, hB, n1, q⟩ := h
    have ⟨cb, mb, zy, _, _⟩ := hB
    refine ⟨_, (cE (bT (i := 2) fU.nd rfl (Or.inl rfl) (tH rfl rfl bl.list_ rfl bl.range_ (pv 1)))
    (cE (bT (i := 3) fU.nd rfl (Or.inl rfl) (lY aN))
    (cE (i9 PassesOwn.never rfl (cT rfl bl.range_ (aw (pv 1) aN)) (dE (i := 4) fU.nd rfl (Or.inl rfl))
      (cg (pY (oX (K := K) rfl PySem.F.plainAttrs_list PySem.F.slot_list_append PySem.F.type_list_append l0 (pv 3) (aw (oX (K := K) rfl PySem.F.plainAttrs_list PySem.F.slot_list_pop PySem.F.type_list_pop BE (pv 2) (aw (dF aV (hr.mono (by decide)) rfl ai.mg ai.fn.kp ai.bd .nil bt (aw (pv 0) (aw (eR (fO (K := K) rfl) rfl bl.len_ PySem.boot_len (aw (pv 2) aN)) aN))) aN)) aN)))))
    (cg (i7 (pv 3)))))), ?_⟩
    refine ⟨_, rfl, _, rfl, by omega, by omega, fun r gF => ?_⟩
    have Iq : b ≠ r := av zy gF
    refine ⟨by decide, fun o ho => ?_⟩
    have D6 : r ≠ o := av (H := upd H r (.lst _)) aj ho
    have Lx : b ≠ o := av (H := upd H r (.lst _)) (by rw [ae Iq]; exact zy) ho
    have fB : H o = none := by rw [ae (Ne.symm D6)] at ho; exact ho
    refine ⟨_, rfl, _, rfl, by omega, by omega, ?_⟩
    refine kc (fun i σ H1 => aM b H H1 ∧ bH H1 b ∧ (∃ v, σ = [some (.ref b), some (.int (n : Nat)), some (.ref r), some (.ref o), v]) ∧ ∃ rest got : List Int, H1 r = some (.lst (rest.map V.int)) ∧ H1 o = some (.lst (got.map V.int)) ∧ got.length = i ∧ (got ++ rest).Perm ((List.range n).map fun i : Nat => (i : Int))) ?_ (fun _ _ _ _ _ => cH) ?_ ?_
    · refine ⟨((bq.new gF _).trans (bq.new ho _)).but b, ?_, ⟨none, rfl⟩, (List.range n).map fun i : Nat => (i : Int), [], ?_, aj, rfl, .refl _⟩
      · exact hB.keep ((bq.new gF _).trans (bq.new ho _))
      · rw [ae D6, aj, List.map_map]
        rfl
    · rintro i x σ H1 hx ⟨k1, fM, ⟨v, rfl⟩, rest, got, wG, tN, hg, pm⟩
      have hi : i < n := by
        have := (List.getElem?_eq_some_iff.mp hx).1
        simpa using this
      have hlen : got.length + rest.length = n := by
        have := pm.length_eq
        simpa using this
      have D7 : (rest.map V.int).length = rest.length := List.length_map _
      refine ⟨_, rfl, .inl ⟨rfl, _, a8.of tN⟩, _, rfl, .inl ⟨rfl, _, a8.of wG⟩, _, rfl, _, rfl, r, _, rfl, .inl (a8.of wG), b, _, rfl, fM, by rw [D7]; omega, by rw [D7]; omega, fun d H2 d0 d1 k2 iI => ?_⟩
      rw [D7] at d1
      have jP := k2.lst (Ne.symm Iq) wG
      have iB := k2.lst (Ne.symm Lx) tN
      have hd : d.toNat < rest.length := by omega
      have Nh : seqIndex? d (rest.map V.int).length = some d.toNat := by
        obtain ⟨h1, _⟩ := p8 (n := (rest.map V.int).length) (i := d) (j := d.toNat) (by unfold iC; rw [if_pos d0, if_pos (by rw [D7]; omega)])
        exact h1
      refine ⟨r, _, d, d.toNat, .int rest[d.toNat], rfl, rfl, jP, by omega, by omega, Nh, by rw [List.getElem?_map, List.getElem?_eq_getElem hd]; rfl, ?_⟩
      refine ⟨o, got.map V.int, _, rfl, rfl, by rw [ae (Ne.symm D6)]; exact iB, by rw [List.length_map]; exact Nat.lt_of_le_of_lt (show got.length ≤ 1000 by omega) (by decide), ?_⟩
      refine ⟨?_, ?_, ⟨_, rfl⟩, rest.eraseIdx d.toNat, got ++ [rest[d.toNat]], ?_, ?_, by simp [hg], ?_⟩
      · refine fun b1 o1 n1 h1 => ?_
        have z := (k1.trans k2) b1 o1 n1 h1
        have e1 : b1 ≠ r := av h1 gF
        have e2 : b1 ≠ o := av h1 fB
        rw [ae e2, ae e1]
        exact z
      · obtain ⟨c3, m3, e3, z3⟩ := iI
        exact ⟨c3, m3, by rw [ae Lx, ae Iq]; exact e3, z3⟩
      · rw [ae D6, aj, rL]
      · rw [aj, List.map_append]
        rfl
      · refine List.Perm.trans ?_ pm
        rw [List.append_assoc]
        refine List.Perm.append_left got ?_
        exact eY rest d.toNat hd
    · rintro σ H1 ⟨k1, fM, ⟨v, rfl⟩, rest, got, wG, tN, hg, pm⟩
      have hlen : got.length + rest.length = n := by
        have := pm.length_eq
        simpa using this
      have GW : got.length = n := by simpa using hg
      have AU : rest = [] := List.eq_nil_of_length_eq_zero (by omega)
      rw [AU, List.append_nil] at pm
      exact ⟨_, rfl, q o got H1 fB ⟨pm⟩ k1 fM tN⟩
end
section
structure NI (H : Hp) (b o rl : Addr) (n : Nat) (os : List Int) (H1 : Hp) (aH : List Addr) (rows : List (List Int)) : Prop where
  kp : aM b H H1
  bag : bH H1 b
  ord : H1 o = some (.lst (os.map V.int))
  oo : c4 n os
  ob : o ≠ b
  on : H o = none
  rb : rl ≠ b
  ro : rl ≠ o
  rn : H rl = none
  top : H1 rl = some (.lst (aH.map V.ref))
  nd : aH.Nodup
  fr : ∀ p ∈ aH, H p = none ∧ p ≠ b ∧ p ≠ o ∧ p ≠ rl
  row : ∀ (i : Nat) (p : Addr) (r : List Int), aH[i]? = some p → rows[i]? = some r → H1 p = some (.lst (r.map V.int))
  l1 : aH.length = n
  l2 : rows.length = n
  rng : ∀ r ∈ rows, ∀ g ∈ r, 0 ≤ g ∧ g < (n : Int)
variable {H H1 H2 : Hp} {b o rl : Addr} {n : Nat} {os : List Int} {aH : List Addr} {rows : List (List Int)}
theorem NI.rowAt (h : NI H b o rl n os H1 aH rows) {p : Addr} (hp : p ∈ aH) : ∃ r : List Int, H1 p = some (.lst (r.map V.int)) := by
  obtain ⟨i, hi, rfl⟩ := List.getElem_of_mem hp
  have lH : i < rows.length := by rw [h.l2, ← h.l1]; exact hi
  exact ⟨_, h.row i _ _ (List.getElem?_eq_getElem hi) (List.getElem?_eq_getElem lH)⟩
theorem NI.take (h : NI H b o rl n os H1 aH rows) (k : aM b H1 H2) (hB : bH H2 b) : NI H b o rl n os H2 aH rows :=
  { h with kp := h.kp.trans k, bag := hB, ord := k.lst h.ob h.ord, top := k.lst h.rb h.top, row := fun i p r e1 e2 => k.lst (h.fr p (List.mem_of_getElem? e1)).2.1 (h.row i p r e1 e2) }
theorem NI.fresh (h : NI H b o rl n os H1 aH rows) {d : Addr} (hd : H1 d = none) : H d = none ∧ d ≠ b ∧ d ≠ o ∧ d ≠ rl ∧ d ∉ aH := by
  obtain ⟨c, m, hb, _⟩ := h.bag
  have e1 : d ≠ b := (av hb hd).symm
  refine ⟨?_, e1, (av h.ord hd).symm, (av h.top hd).symm, fun hp => ?_⟩
  · cases q : H d with
    | none => rfl
    | some u => rcases h.kp d u e1 q with z | ⟨_, _, _, z, _⟩ <;> (rw [hd] at z; cases z)
  · obtain ⟨r, e⟩ := h.rowAt hp
    rw [hd] at e; cases e
theorem NI.other (h : NI H b o rl n os H1 aH rows) {d : Addr} (hd : H d = none ∧ d ≠ b ∧ d ≠ o ∧ d ≠ rl ∧ d ∉ aH) (u : HO) : NI H b o rl n os (upd H1 d u) aH rows := by
  obtain ⟨d0, d1, d2, d3, d4⟩ := hd
  refine { h with kp := fun b1 o1 n1 e => ?_, bag := ?_, ord := by rw [ae (Ne.symm d2)]; exact h.ord, top := by rw [ae (Ne.symm d3)]; exact h.top, row := fun i p r e1 e2 => ?_ }
  · rw [ae (av e d0)]
    exact h.kp b1 o1 n1 e
  · obtain ⟨c, m, e, r⟩ := h.bag
    exact ⟨c, m, by rw [ae (Ne.symm d1)]; exact e, r⟩
  · have np : p ≠ d := fun z => d4 (by rw [← z]; exact List.mem_of_getElem? e1)
    rw [ae np]
    exact h.row i p r e1 e2
theorem NI.new (h : NI H b o rl n os H1 aH rows) {d : Addr} (hd : H1 d = none) (u : HO) : NI H b o rl n os (upd H1 d u) aH rows := h.other (h.fresh hd) u
theorem uQ {α : Type} {l : List α} (h : l.Nodup) {i j : Nat} {x : α} (a : l[i]? = some x) (b : l[j]? = some x) : i = j := by
  obtain ⟨h1, e1⟩ := List.getElem?_eq_some_iff.mp a
  obtain ⟨h2, e2⟩ := List.getElem?_eq_some_iff.mp b
  exact (List.getElem_inj h).mp (e1.trans e2.symm)
theorem NI.put (h : NI H b o rl n os H1 aH rows) {i : Nat} {p : Addr} {r' : List Int} (hi : aH[i]? = some p) (hr : ∀ g ∈ r', 0 ≤ g ∧ g < (n : Int)) : NI H b o rl n os (upd H1 p (.lst (r'.map V.int))) aH (rows.set i r') := by
  obtain ⟨p0, p1, p2, p3⟩ := h.fr p (List.mem_of_getElem? hi)
  refine { h with kp := fun b1 o1 n1 e => ?_, bag := ?_, ord := by rw [ae (Ne.symm p2)]; exact h.ord, top := by rw [ae (Ne.symm p3)]; exact h.top, row := fun j q r e1 e2 => ?_, l2 := by rw [List.length_set]; exact h.l2, rng := fun r gF => ?_ }
  · rw [ae (av e p0)]
    exact h.kp b1 o1 n1 e
  · obtain ⟨c, m, e, r⟩ := h.bag
    exact ⟨c, m, by rw [ae (Ne.symm p1)]; exact e, r⟩
  · by_cases oZ : j = i
    · subst oZ
      rw [hi] at e1; cases e1
      have hl : j < rows.length := by rw [h.l2, ← h.l1]; exact (List.getElem?_eq_some_iff.mp hi).1
      rw [List.getElem?_set_self hl] at e2
      cases e2
      exact aj
    · rw [List.getElem?_set_ne (Ne.symm oZ)] at e2
      have : q ≠ p := fun z => oZ (uQ h.nd e1 (by rw [z]; exact hi))
      rw [ae this]
      exact h.row j q r e1 e2
  · rcases List.mem_or_eq_of_mem_set gF with z | z
    · exact h.rng r z
    · rw [z]; exact hr
theorem NI.swap (h : NI H b o rl n os H1 aH rows) {i : Nat} {q : Addr} {r' : List Int} (hi : i < n) (hq : H q = none ∧ q ≠ b ∧ q ≠ o ∧ q ≠ rl ∧ q ∉ aH) (Pn : H1 q = some (.lst (r'.map V.int))) (hr : ∀ g ∈ r', 0 ≤ g ∧ g < (n : Int)) :
    NI H b o rl n os (upd H1 rl (.lst ((aH.map V.ref).set i (.ref q)))) (aH.set i q) (rows.set i r') := by
  obtain ⟨q0, q1, q2, q3, q4⟩ := hq
  have nodup : ∀ (l : List Addr) (i : Nat), l.Nodup → q ∉ l → (l.set i q).Nodup := by
    intro l
    induction l with
    | nil => intro i h1 h2; exact h1
    | cons a l ih =>
      intro i h1 h2
      obtain ⟨a1, a2⟩ := List.nodup_cons.mp h1
      have n1 : q ≠ a := fun z => h2 (z ▸ List.mem_cons_self)
      have n2 : q ∉ l := fun z => h2 (List.mem_cons_of_mem _ z)
      cases i with
      | zero => exact List.nodup_cons.mpr ⟨n2, a2⟩
      | succ i =>
        refine List.nodup_cons.mpr ⟨fun z => ?_, ih i a2 n2⟩
        rcases List.mem_or_eq_of_mem_set z with z | z
        · exact a1 z
        · exact n1 z.symm
  refine { h with kp := fun b1 o1 n1 e => ?_, bag := ?_, ord := by rw [ae (Ne.symm h.ro)]; exact h.ord, top := ?_, nd := nodup aH i h.nd q4, fr := fun p hp => ?_, row := fun j p r e1 e2 => ?_, l1 := by rw [List.length_set]; exact h.l1, l2 := by rw [List.length_set]; exact h.l2, rng := fun r gF => ?_ }
  · rw [ae (av e h.rn)]
    exact h.kp b1 o1 n1 e
  · obtain ⟨c, m, e, r⟩ := h.bag
    exact ⟨c, m, by rw [ae (Ne.symm h.rb)]; exact e, r⟩
  · rw [aj, List.map_set]
  · rcases List.mem_or_eq_of_mem_set hp with z | z
    · exact h.fr p z
    · rw [z]; exact ⟨q0, q1, q2, q3⟩
  · have Ni : p ≠ rl := by
      rcases List.mem_or_eq_of_mem_set (List.mem_of_getElem? e1) with z | z
      · exact (h.fr p z).2.2.2
      · rw [z]; exact q3
    rw [ae Ni]
    by_cases oZ : j = i
    · subst oZ
      rw [List.getElem?_set_self (by rw [h.l1]; exact hi)] at e1
      rw [List.getElem?_set_self (by rw [h.l2]; exact hi)] at e2
      cases e1
      cases e2
      exact Pn
    · rw [List.getElem?_set_ne (Ne.symm oZ)] at e1 e2
      exact h.row j p r e1 e2
  · rcases List.mem_or_eq_of_mem_set gF with z | z
    · exact h.rng r z
    · rw [z]; exact hr
theorem NI.at (h : NI H b o rl n os H1 aH rows) {x : Int} (hx : x ∈ os) : ∃ p r, dO (aH.map V.ref) x = some (.ref p) ∧ aH[x.toNat]? = some p ∧ rows[x.toNat]? = some r ∧ H1 p = some (.lst (r.map V.int)) ∧ x.toNat < n := by
  obtain ⟨x0, x1⟩ := h.oo.mem hx
  have pH : x.toNat < n := by omega
  have e : x = ((x.toNat : Nat) : Int) := by omega
  have g1 : x.toNat < aH.length := by rw [h.l1]; exact pH
  have g2 : x.toNat < rows.length := by rw [h.l2]; exact pH
  have e1 : aH[x.toNat]? = some aH[x.toNat] := List.getElem?_eq_getElem g1
  have e2 : rows[x.toNat]? = some rows[x.toNat] := List.getElem?_eq_getElem g2
  have := cN (xs := aH.map V.ref) (j := x.toNat) (v := .ref aH[x.toNat]) (by rw [List.getElem?_map, e1]; rfl)
  rw [← e] at this
  exact ⟨_, _, this, e1, e2, h.row _ _ _ e1 e2, pH⟩
theorem wJ {α : Type} {xs : List α} (h : 0 < xs.length) : ∃ x, dO xs (-1) = some x ∧ x ∈ xs := by
  have e : iC xs.length (-1) = some (xs.length - 1) := by
    unfold iC
    rw [if_neg (by decide), if_pos (by omega)]
    congr 1
    omega
  refine ⟨xs[xs.length - 1], ?_, List.getElem_mem _⟩
  unfold dO
  rw [e]
  exact List.getElem?_eq_getElem (by omega)
theorem c4.at {n : Nat} {os : List Int} (h : c4 n os) {i : Int} (h0 : -1 ≤ i) (h1 : i < n) (hn : 1 ≤ n) : ∃ x : Int, dO (os.map V.int) i = some (.int x) ∧ x ∈ os := by
  by_cases hi : 0 ≤ i
  · obtain ⟨v, e1, e2⟩ := jn (ns := os) hi (by rw [h.len]; exact h1)
    exact ⟨v, e1, List.mem_of_getElem? e2⟩
  · have e : i = -1 := by omega
    subst e
    obtain ⟨x, e1, e2⟩ := wJ (xs := os.map V.int) (by rw [List.length_map, h.len]; exact hn)
    obtain ⟨v, hv, rfl⟩ := List.mem_map.mp e2
    exact ⟨v, e1, hv⟩
end
section
variable {P : Program} {w : World} {K : PySem.W.Frag} {mg : Str → Option Value} {base : Heap} {tb : List Addr}
theorem gY {n : Int} {i : Nat} {x : V} (hx : ((List.range n.toNat).map fun i => V.int (0 + (i : Nat)))[i]? = some x) : x = .int (i : Nat) ∧ (i : Int) < n := by
  rw [List.getElem?_map] at hx
  cases e : (List.range n.toNat)[i]? with
  | none => rw [e] at hx; cases hx
  | some k =>
    rw [e] at hx
    obtain ⟨h1, h2⟩ := List.getElem?_eq_some_iff.mp e
    rw [List.length_range] at h1
    have h3 : k = i := by simpa using h2.symm
    have h4 : x = .int (0 + (k : Nat)) := (Option.some.inj hx).symm
    rw [h4, h3]
    exact ⟨by simp, by omega⟩
theorem iq {n : Int} : ((List.range n.toNat).map fun i => V.int (0 + (i : Nat))).length = n.toNat := by simp
noncomputable def AV : Sp := fun vs H Q _ => ∃ (b : Addr) (most : Int), vs = [.ref b, .int most] ∧ bH H b ∧ 1 ≤ most ∧ most ≤ 9 ∧
  ∀ (v : V) (af : List (List Int)) (n : Nat) (H' : Hp), Dy H' v af → cA af n → aM b H H' → bH H' b → (af.length : Int) ≤ most → Q v H'
set_option maxHeartbeats 8000000 in
theorem yc {f f1 f2 : Addr} {fd bp fd2 : FuncData} (D : Df K mg "_law_net" dX ["_law_bag_here", "_law_most"] f fd) (ai : Df K mg "_law_take" cI ["_law_bag_here", "_law_many"] f1 bp) (dN : Df K mg "_law_order" gE ["_law_bag_here", "_law_many"] f2 fd2) (bl : Bl mg) :
    FnOk P w K mg base bz 3 f fd ["_law_bag_here", "_law_most"] AV := by
  have aV : FnOk P w K mg base bz 1 f1 bp ["_law_bag_here", "_law_many"] ng := g7 ai
  have uR : FnOk P w K mg base bz 2 f2 fd2 ["_law_bag_here", "_law_many"] wI := uP dN ai bl
  refine D.fn.ok bA (fun vs H Q E h => ?_) (fun cy A outer s H vs Q E hr h => ?_)
  · obtain ⟨b, most, rfl, _⟩ := h
    rfl
  obtain ⟨b, most, rfl, hB, m1, m9, q⟩ := h
  refine Ho.run (Pre := fun σ H1 => H1 = H ∧ σ = [some (.ref b), some (.int most), none, none, none, none, none, none, none, none, none]) ⟨rfl, rfl⟩ ?_
  refine Ho.cons (fun σ H1 => aM b H H1 ∧ bH H1 b ∧ ∃ many : Int, 1 ≤ many ∧ many ≤ most ∧ σ = [some (.ref b), some (.int most), some (.int many), none, none, none, none, none, none, none, none]) ⟨_, (bT (i := 2) bA.nd rfl (Or.inl rfl) (bf eO aA (dF aV (hr.mono (by decide)) rfl ai.mg ai.fn.kp ai.bd .nil bt (aw (pv 0) (aw (pv 1) aN))))), ?_⟩ ?_
  · rintro N σ H1 ⟨rfl, rfl⟩ k
    refine ⟨_, rfl, _, rfl, b, _, rfl, hB, m1, by omega, fun d H2 d0 d1 k2 iI => ⟨_, _, rfl, rfl, k _ _ ⟨k2, iI, _, by omega, by omega, rfl⟩⟩⟩
  refine Ho.cons (fun σ H1 => aM b H H1 ∧ bH H1 b ∧ ∃ many aB : Int, 1 ≤ many ∧ many ≤ most ∧ 2 ≤ aB ∧ aB ≤ 3 ∧ σ = [some (.ref b), some (.int most), some (.int many), some (.int aB), none, none, none, none, none, none, none]) ⟨_, (bT (i := 3) bA.nd rfl (Or.inl rfl) (bf eO aA (dF aV (hr.mono (by decide)) rfl ai.mg ai.fn.kp ai.bd .nil bt (aw (pv 0) (aw aA aN))))), ?_⟩ ?_
  · rintro N σ H1 ⟨k1, fM, many, a1, a2, rfl⟩ k
    refine ⟨_, rfl, b, _, rfl, fM, by decide, by decide, fun d H2 d0 d1 k2 iI => ⟨_, _, rfl, rfl, k _ _ ⟨k1.trans k2, iI, many, _, a1, a2, by omega, by omega, rfl⟩⟩⟩
  refine Ho.cons (fun σ H1 => aM b H H1 ∧ bH H1 b ∧ ∃ many aB kind : Int, 1 ≤ many ∧ many ≤ most ∧ 2 ≤ aB ∧ aB ≤ 3 ∧ σ = [some (.ref b), some (.int most), some (.int many), some (.int aB), some (.int kind), none, none, none, none, none, none]) ⟨_, (bT (i := 4) bA.nd rfl (Or.inl rfl) (dF aV (hr.mono (by decide)) rfl ai.mg ai.fn.kp ai.bd .nil bt (aw (pv 0) (aw aA aN)))), ?_⟩ ?_
  · rintro N σ H1 ⟨k1, fM, many, aB, a1, a2, a3, a4, rfl⟩ k
    refine ⟨_, rfl, b, _, rfl, fM, by decide, by decide, fun d H2 d0 d1 k2 iI => k _ _ ⟨k1.trans k2, iI, many, aB, d, a1, a2, a3, a4, rfl⟩⟩
  refine Ho.cons (fun σ H1 => aM b H H1 ∧ bH H1 b ∧ ∃ many aB kind : Int, 1 ≤ many ∧ many ≤ most ∧ 2 ≤ aB ∧ aB ≤ 3 ∧ σ = [some (.ref b), some (.int most), some (.int many), some (.int aB), some (.int kind), some (.int 1), none, none, none, none, none]) ⟨_, (bT (i := 5) bA.nd rfl (Or.inr rfl) aA), ?_⟩ ?_
  · rintro N σ H1 ⟨k1, fM, many, aB, kind, a1, a2, a3, a4, rfl⟩ k
    exact k _ _ ⟨k1, fM, many, aB, kind, a1, a2, a3, a4, rfl⟩
  refine Ho.cons (fun σ H1 => aM b H H1 ∧ bH H1 b ∧ ∃ many aB kind bP : Int, 1 ≤ many ∧ many ≤ most ∧ 2 ≤ aB ∧ aB ≤ 3 ∧ 1 ≤ bP ∧ bP ≤ many ∧ σ = [some (.ref b), some (.int most), some (.int many), some (.int aB), some (.int kind), some (.int bP), none, none, none, none, none]) ⟨_, (kG (ej oO (pv 4) aA (bU _))
      (cE (bT (i := 5) bA.nd rfl (Or.inr rfl) (eR (lX rfl) rfl bl.min_ tI (aw (bf eO aA (dF aV (hr.mono (by decide)) rfl ai.mg ai.fn.kp ai.bd .nil bt (aw (pv 0) (aw aA aN)))) (aw (pv 2) aN))))
    (cg (bT (i := 2) bA.nd rfl (Or.inl rfl) (bf ja (bf p7 (pv 2) (pv 5)) (pv 5)))))
      pss_nil), ?_⟩ ?_
  · rintro N σ H1 ⟨k1, fM, many, aB, kind, a1, a2, a3, a4, rfl⟩ k
    refine ⟨_, rfl, rfl, _, rfl, ?_⟩
    refine kJ (fun _ => ?_) (fun _ => k _ _ ⟨k1, fM, many, aB, kind, 1, a1, a2, a3, a4, Int.le_refl _, a1, rfl⟩)
    refine ⟨_, rfl, b, _, rfl, fM, by decide, by decide, fun d H2 d0 d1 k2 iI => ⟨_, _, rfl, rfl, _, rfl, _, _, rfl, ?_⟩⟩
    obtain ⟨bP, el, l1, l2⟩ : ∃ bP : Int, (if many < 2 + d then many else 2 + d) = bP ∧ 1 ≤ bP ∧ bP ≤ many := ⟨_, rfl, by split <;> omega, by split <;> omega⟩
    rw [el]
    have Pq : 1 ≤ many / bP := by
      have := Int.ediv_le_ediv (c := bP) (by omega) l2
      rwa [Int.ediv_self (by omega)] at this
    have Qn : many / bP * bP ≤ many := Int.ediv_mul_le many (by omega)
    have Pr : bP ≤ many / bP * bP := by
      have := Int.mul_le_mul_of_nonneg_right Pq (show 0 ≤ bP by omega)
      rwa [Int.one_mul] at this
    refine ⟨_, rfl, _, rfl, _, _, rfl, rfl, ⟨by omega, by omega⟩, _, rfl, _, _, rfl, rfl, .inr ⟨by omega, by omega⟩, ?_⟩
    exact k _ _ ⟨k1.trans k2, iI, _, aB, kind, bP, by omega, by omega, a3, a4, l1, Pr, rfl⟩
  refine Ho.cons (fun σ H1 => ∃ (many aB : Nat) (kind bP : Int) (o : Addr) (os : List Int), aM b H H1 ∧ bH H1 b ∧ H1 o = some (.lst (os.map V.int)) ∧ c4 many os ∧ o ≠ b ∧ H o = none ∧ 1 ≤ many ∧ (many : Int) ≤ most ∧ (aB = 2 ∨ aB = 3) ∧ 1 ≤ bP ∧ bP ≤ many ∧
      σ = [some (.ref b), some (.int most), some (.int (many : Nat)), some (.int (aB : Nat)), some (.int kind), some (.int bP), some (.ref o), none, none, none, none]) ⟨_, (bT (i := 6) bA.nd rfl (Or.inr rfl) (dF uR (hr.mono (by decide)) rfl dN.mg dN.fn.kp dN.bd .nil bt (aw (pv 0) (aw (pv 2) aN)))), ?_⟩ ?_
  · rintro N σ H1 ⟨k1, fM, many, aB, kind, bP, a1, a2, a3, a4, a5, a6, rfl⟩ k
    obtain ⟨mN, rfl⟩ : ∃ mN : Nat, many = (mN : Nat) := ⟨many.toNat, by omega⟩
    obtain ⟨fN, rfl⟩ : ∃ fN : Nat, aB = (fN : Nat) := ⟨aB.toNat, by omega⟩
    refine ⟨_, rfl, _, rfl, b, mN, rfl, fM, by omega, fun o os H2 ho oo k2 iI iB => ?_⟩
    obtain ⟨cb, mb, hb, _, _⟩ := fM
    have ob : o ≠ b := (av hb ho).symm
    have Pt : H o = none := by
      cases z : H o with
      | none => rfl
      | some u => rcases k1 o u ob z with z2 | ⟨_, _, _, z2, _⟩ <;> (rw [ho] at z2; cases z2)
    exact k _ _ ⟨mN, fN, kind, bP, o, os, k1.trans k2, iI, iB, oo, ob, Pt, by omega, a2, by omega, a5, a6, rfl⟩
  refine Ho.cons (fun σ H1 => ∃ (many aB : Nat) (kind bP : Int) (o rl : Addr) (os : List Int) (aH : List Addr) (rows : List (List Int)), NI H b o rl many os H1 aH rows ∧ (∀ r ∈ rows, r = []) ∧ 1 ≤ many ∧ (many : Int) ≤ most ∧ (aB = 2 ∨ aB = 3) ∧ 1 ≤ bP ∧ bP ≤ many ∧
      σ = [some (.ref b), some (.int most), some (.int (many : Nat)), some (.int (aB : Nat)), some (.int kind), some (.int bP), some (.ref o), some (.ref rl), none, none, none]) ⟨_, (oS (i := 7) bA.nd rfl rfl (N' := ["_law_place"]) (tn := 1) (idx := []) rfl (show aO ["_law_bag_here", "_law_most", "_law_many", "_law_fans", "_law_kind", "_law_lap", "_law_order_here", "_law_rows", "_law_k", "_law_goals", "_law_fan"] (ak dX) _ ["_law_place"] 1 [] from by decide +kernel) (cT rfl bl.range_ (aw (pv 2) aN)) (fun _ _ _ _ _ => (dE (i := 0) (show List.Nodup [("_law_place" : Str)] from by decide +kernel) rfl (Or.inl rfl))) (fun _ _ _ _ _ => qb) (fun _ _ _ _ _ => (lY aN))), ?_⟩ ?_
  · rintro N σ H1 ⟨many, aB, kind, bP, o, os, k1, fM, ho, oo, ob, on, a1, a2, a3, a4, a5, rfl⟩ k
    refine ⟨_, rfl, _, rfl, by omega, by omega, fun rl lP => ?_⟩
    have rb : rl ≠ b := by obtain ⟨cb, mb, hb, _⟩ := fM; exact (av hb lP).symm
    have ro : rl ≠ o := (av ho lP).symm
    have rn : H rl = none := by
      cases z : H rl with
      | none => rfl
      | some u => rcases k1 rl u rb z with z2 | ⟨_, _, _, z2, _⟩ <;> (rw [lP] at z2; cases z2)
    refine zk (jm := [none]) (fun i acc H2 => ∃ aH : List Addr, acc = aH.map V.ref ∧ aH.length = i ∧ aM b H H2 ∧ bH H2 b ∧ H2 o = some (.lst (os.map V.int)) ∧ H2 rl = some (.lst acc) ∧ aH.Nodup ∧ ∀ p ∈ aH, H p = none ∧ p ≠ b ∧ p ≠ o ∧ p ≠ rl ∧ H2 p = some (.lst []))
      (fun _ _ _ _ _ => cH) ?_ ?_ ?_
    · have k0 : bq H1 (upd H1 rl (.lst [])) := .new lP _
      exact ⟨[], rfl, rfl, k1.trans (k0.but b), fM.keep k0, k0.lst ho, aj, List.nodup_nil, fun p hp => absurd hp (by simp)⟩
    · rintro i x acc H2 hx ⟨aH, rfl, hl, k2, iI, iB, jP, nd, nW⟩ R hR
      obtain ⟨_, hi⟩ := gY hx
      refine ⟨by decide, fun p hp => ?_⟩
      have pb : p ≠ b := by obtain ⟨cb, mb, hb, _⟩ := iI; exact (av hb hp).symm
      have po : p ≠ o := (av iB hp).symm
      have pr : p ≠ rl := (av jP hp).symm
      have pn : H p = none := by
        cases z : H p with
        | none => rfl
        | some u => rcases k2 p u pb z with z2 | ⟨_, _, _, z2, _⟩ <;> (rw [hp] at z2; cases z2)
      have pin : p ∉ aH := fun hm => by have := (nW p hm).2.2.2.2; rw [hp] at this; cases this
      have kk : bq H2 (upd H2 p (.lst [])) := .new hp _
      refine hR _ _ (kk.lst jP) (by rw [List.length_map, hl]; exact Nat.lt_of_le_of_lt (show i ≤ 1000 by omega) (by decide)) ?_
      refine ⟨aH ++ [p], by rw [List.map_append]; rfl, by simp [hl], ?_, ?_, ?_, aj, ?_, ?_⟩
      · refine fun b1 o1 n1 e => ?_
        rw [ae (av e rn), ae (av e pn)]
        exact k2 b1 o1 n1 e
      · obtain ⟨c, m, e, r⟩ := iI
        exact ⟨c, m, by rw [ae (Ne.symm rb), ae (Ne.symm pb)]; exact e, r⟩
      · rw [ae (Ne.symm ro)]; exact kk.lst iB
      · refine List.nodup_append.mpr ⟨nd, by simp, fun a ha c hc e => pin ?_⟩
        rw [List.mem_singleton.mp hc] at e
        rw [← e]; exact ha
      · intro p' Pu
        rcases List.mem_append.mp Pu with z | z
        · obtain ⟨y1, y2, y3, y4, y5⟩ := nW p' z
          exact ⟨y1, y2, y3, y4, by rw [ae y4]; exact kk.lst y5⟩
        · rw [List.mem_singleton.mp z]
          exact ⟨pn, pb, po, pr, by rw [ae pr]; exact aj⟩
    · rintro acc H2 ⟨aH, rfl, hl, k2, iI, iB, jP, nd, nW⟩
      rw [iq] at hl
      have zG : aH.length = many := by simpa using hl
      refine k _ _ ⟨many, aB, kind, bP, o, rl, os, aH, List.replicate many [], ⟨k2, iI, iB, oo, ob, on, rb, ro, rn, jP, nd, fun p hp => ⟨(nW p hp).1, (nW p hp).2.1, (nW p hp).2.2.1, (nW p hp).2.2.2.1⟩, fun i p r e1 e2 => ?_, zG, by simp, fun r gF => ?_⟩, fun r gF => (List.eq_of_mem_replicate gF), a1, a2, a3, a4, a5, rfl⟩
      · have := List.eq_of_mem_replicate (List.mem_of_getElem? e2)
        subst this
        exact (nW p (List.mem_of_getElem? e1)).2.2.2.2
      · rw [List.eq_of_mem_replicate gF]
        intro g hg
        cases hg
  refine Ho.cons (fun σ H1 => ∃ (many aB : Nat) (kind : Int) (vl : Option V) (o rl : Addr) (os : List Int) (aH : List Addr) (rows : List (List Int)) (vk vg vf : Option V), NI H b o rl many os H1 aH rows ∧ (∀ r ∈ rows, r.length = aB) ∧ 1 ≤ many ∧ (many : Int) ≤ most ∧ (aB = 2 ∨ aB = 3) ∧
      σ = [some (.ref b), some (.int most), some (.int (many : Nat)), some (.int (aB : Nat)), some (.int kind), vl, some (.ref o), some (.ref rl), vk, vg, vf]) ⟨_, (i9 PassesOwn.never rfl (cT rfl bl.range_ (aw (pv 2) aN)) (dE (i := 8) bA.nd rfl (Or.inr rfl))
      (cE (oS (i := 9) bA.nd rfl rfl (N' := ["_law_j", "_law_order_here", "_law_lap", "_law_k"]) (tn := 1) (idx := [6, 5, 8]) rfl (show aO ["_law_bag_here", "_law_most", "_law_many", "_law_fans", "_law_kind", "_law_lap", "_law_order_here", "_law_rows", "_law_k", "_law_goals", "_law_fan"] (ak dX) _ ["_law_j", "_law_order_here", "_law_lap", "_law_k"] 1 [6, 5, 8] from by decide +kernel) (cT rfl bl.range_ (aw (pv 2) aN)) (fun _ _ _ _ _ => (dE (i := 0) (show List.Nodup [("_law_j" : Str), ("_law_order_here" : Str), ("_law_lap" : Str), ("_law_k" : Str)] from by decide +kernel) rfl (Or.inl rfl))) (fun _ _ _ _ _ => (vZ (ej oO (bf hU (pv 0) (pv 2)) (bf hU (bf eO (pv 3) aA) (pv 2)) (bU _)))) (fun _ _ _ _ _ => (dg (bM (K := K) rfl) (pv 1) (pv 0) (fun _ _ => rfl))))
    (cg (i9 PassesOwn.never rfl (cT rfl bl.range_ (aw (pv 3) aN)) (dE (i := 10) bA.nd rfl (Or.inl rfl))
      (cg (pY (oX (K := K) rfl PySem.F.plainAttrs_list PySem.F.slot_list_append PySem.F.type_list_append l0 (dg (bM (K := K) rfl) (pv 7) (dg (bM (K := K) rfl) (pv 6) (pv 8) (fun _ _ => rfl)) (fun _ _ => rfl)) (aw (dg (bM (K := K) rfl) (pv 9) (dF aV (hr.mono (by decide)) rfl ai.mg ai.fn.kp ai.bd .nil bt (aw (pv 0) (aw (eR (fO (K := K) rfl) rfl bl.len_ PySem.boot_len (aw (pv 9) aN)) aN))) (fun _ _ => rfl)) aN)))))))), ?_⟩ ?_
  · rintro N σ H1 ⟨many, aB, kind, bP, o, rl, os, aH, rows, h, hz, a1, a2, a3, a4, a5, rfl⟩ k
    refine ⟨_, rfl, _, rfl, by omega, by omega, ?_⟩
    refine kc (fun i σ H2 => ∃ (rows : List (List Int)) (vk vg vf : Option V), NI H b o rl many os H2 aH rows ∧ (∀ (j : Nat) r, rows[j]? = some r → r.length = if ((j : Nat) : Int) ∈ os.take i then aB else 0) ∧
      σ = [some (.ref b), some (.int most), some (.int (many : Nat)), some (.int (aB : Nat)), some (.int kind), some (.int bP), some (.ref o), some (.ref rl), vk, vg, vf]) ⟨rows, none, none, none, h, fun j r e => by rw [hz r (List.mem_of_getElem? e)]; simp, rfl⟩ (fun _ _ _ _ _ => cH) ?_ ?_
    · rintro i x σ H2 hx ⟨rows, vk, vg, vf, h2, hlen, rfl⟩
      obtain ⟨rfl, hi⟩ := gY hx
      refine ⟨_, rfl, _, rfl, by omega, by omega, fun dl pR => ?_⟩
      have fd := h2.fresh pR
      refine tturn_of (jm := [none, some (.ref o), some (.int bP), some (.int (i : Nat))]) (fun j acc H3 => NI H b o rl many os H3 aH rows ∧ H3 dl = some (.lst acc) ∧ ∃ gs : List Int, acc = gs.map V.int ∧ gs.length ≤ j ∧ (∀ g ∈ gs, 0 ≤ g ∧ g < (many : Int)) ∧ (((i : Int) + 1) % bP < j → gs ≠ []))
        (fun _ _ _ _ _ => cH) ⟨h2.new pR _, aj, [], rfl, Nat.le_refl _, fun g hg => absurd hg (by simp), fun z => absurd z (by have := Int.emod_nonneg ((i : Int) + 1) (show bP ≠ 0 by omega); omega)⟩ ?_ ?_
      · rintro j x acc H3 hx ⟨h3, D8, gs, rfl, mi, nP, ji⟩ R1 R2 Ir Iu
        obtain ⟨rfl, hj⟩ := gY hx
        refine ⟨_, rfl, _, rfl, _, _, rfl, rfl, (by show 0 < bP; omega), _, rfl, _, _, rfl, rfl, _, rfl, _, _, rfl, rfl, (by show 0 < bP; omega), rfl, _, rfl, ?_⟩
        refine kJ (fun c => ?_) (fun c => ?_)
        · obtain ⟨y, hy, ym⟩ := h3.oo.at (i := (j : Nat)) (by omega) hj a1
          refine ⟨_, rfl, _, rfl, o, _, _, _, rfl, rfl, a8.of h3.ord, hy, Ir _ _ D8 (by rw [List.length_map]; exact Nat.lt_of_le_of_lt (show gs.length ≤ 1000 by omega) (by decide)) ⟨h3.other fd _, aj, gs ++ [y], by rw [List.map_append]; rfl, by rw [List.length_append]; simp; omega, fun g hg => ?_, fun _ z => by simp at z⟩⟩
          rcases List.mem_append.mp hg with z | z
          · exact nP g z
          · rw [List.mem_singleton.mp z]; exact h3.oo.mem ym
        · refine Iu _ ⟨h3, D8, gs, rfl, by omega, nP, fun z => ?_⟩
          by_cases e : ((i : Int) + 1) % bP < j
          · exact ji e
          · exfalso
            have e2 : ((i : Int) + 1) % bP = (j : Nat) := by omega
            have l2 := Int.emod_lt_of_pos ((i : Int) + 1) (show 0 < bP by omega)
            refine c (decide_eq_true ?_)
            have e3 : ((j : Nat) : Int) % bP = (j : Nat) := Int.emod_eq_of_lt (by omega) (by omega)
            show V.int (((j : Nat) : Int) % bP) = V.int ((((i : Nat) : Int) + 1) % bP)
            rw [e3, e2]
      · rintro acc H3 ⟨h3, D8, gs, rfl, mi, nP, ji⟩
        have P4 : gs.length ≤ many := by
          rw [iq] at mi
          simpa using mi
        have jk : 0 < gs.length := by
          refine List.length_pos_iff.mpr (ji ?_)
          rw [iq]
          have l2 := Int.emod_lt_of_pos ((i : Int) + 1) (show 0 < bP by omega)
          omega
        obtain ⟨x, wK, wL⟩ := h3.oo.at (i := (i : Nat)) (by omega) hi a1
        have Ly : os[i]? = some x := by
          obtain ⟨v, e1, e2⟩ := jn (ns := os) (i := (i : Nat)) (by omega) (by rw [h3.oo.len]; exact hi)
          rw [wK] at e1
          have e3 : x = v := by injection e1 with e1; injection e1
          rw [e3]; simpa using e2
        have Pw : x ∉ os.take i := fun z => by
          obtain ⟨j, hj, e⟩ := List.getElem_of_mem z
          rw [List.getElem_take] at e
          have AW : j < i := by rw [List.length_take] at hj; omega
          have := uQ h3.oo.nodup (List.getElem?_eq_getElem (by rw [List.length_take] at hj; omega)) (e ▸ Ly : os[i]? = some _)
          omega
        have Iv : ∀ y : Int, y ∈ os.take (i + 1) ↔ y ∈ os.take i ∨ y = x := fun y => by
          rw [List.take_add_one, Ly]
          simp
        obtain ⟨x0, x1⟩ := h3.oo.mem wL
        refine ⟨_, rfl, _, rfl, by omega, by omega, ?_⟩
        refine kc (fun t σ H4 => ∃ (rows : List (List Int)) (vf : Option V), NI H b o rl many os H4 aH rows ∧ H4 dl = some (.lst (gs.map V.int)) ∧ (∀ (j : Nat) r, rows[j]? = some r → r.length = if ((j : Nat) : Int) = x then t else if ((j : Nat) : Int) ∈ os.take i then aB else 0) ∧
          σ = [some (.ref b), some (.int most), some (.int (many : Nat)), some (.int (aB : Nat)), some (.int kind), some (.int bP), some (.ref o), some (.ref rl), some (.int (i : Nat)), some (.ref dl), vf]) ⟨rows, vf, h3, D8, fun j r e => ?_, rfl⟩ (fun _ _ _ _ _ => cH) ?_ ?_
        · rw [hlen j r e]
          by_cases hj : ((j : Nat) : Int) = x
          · rw [if_pos hj, if_neg (by rw [hj]; exact Pw)]
          · rw [if_neg hj]
        · rintro t y σ H4 hy ⟨rows, vf, h4, Iw, pS, rfl⟩
          obtain ⟨rfl, ht⟩ := gY hy
          obtain ⟨p, r, Iy, hp, D9, ye, Lz⟩ := h4.at wL
          refine ⟨_, rfl, _, rfl, _, rfl, o, _, _, _, rfl, rfl, a8.of h4.ord, wK, rl, _, _, _, rfl, rfl, a8.of h4.top, Iy, .inl ⟨rfl, _, a8.of ye⟩, ?_⟩
          have CP : (gs.map V.int).length = gs.length := List.length_map _
          refine ⟨_, rfl, _, rfl, _, rfl, dl, _, rfl, .inl (a8.of Iw), b, _, rfl, h4.bag, by rw [CP]; omega, by rw [CP]; omega, fun d H5 d0 d1 k5 Px => ?_⟩
          rw [CP] at d1
          have h5 := h4.take k5 Px
          have LA := k5.lst fd.2.1 Iw
          obtain ⟨g, hg, Py⟩ := jn (ns := gs) d0 d1
          have JX := h5.row _ _ _ hp D9
          have lP : r.length ≤ 1000 := by rw [pS _ _ D9]; split <;> (try split) <;> omega
          refine ⟨dl, _, _, _, rfl, rfl, a8.of LA, hg, p, _, _, rfl, rfl, JX, by rw [List.length_map]; exact Nat.lt_of_le_of_lt lP (by decide), ?_⟩
          have e6 : r.map V.int ++ [V.int g] = (r ++ [g]).map V.int := by rw [List.map_append]; rfl
          rw [e6]
          refine ⟨rows.set x.toNat (r ++ [g]), _, h5.put hp fun z hz => ?_, ?_, fun j r2 e => ?_, rfl⟩
          · rcases List.mem_append.mp hz with z1 | z1
            · exact h5.rng r (List.mem_of_getElem? D9) z z1
            · rw [List.mem_singleton.mp z1]
              exact nP g (List.mem_of_getElem? Py)
          · rw [ae (fun z => fd.2.2.2.2 (by rw [z]; exact List.mem_of_getElem? hp))]
            exact LA
          · by_cases hj : j = x.toNat
            · subst hj
              rw [List.getElem?_set_self (by rw [h5.l2]; exact Lz)] at e
              cases e
              have ex : (((x.toNat : Nat)) : Int) = x := by omega
              rw [if_pos ex, List.length_append, pS _ _ D9, if_pos ex]
              rfl
            · rw [List.getElem?_set_ne (Ne.symm hj)] at e
              have ex : ¬ ((j : Nat) : Int) = x := by omega
              rw [pS _ _ e, if_neg ex, if_neg ex]
        · rintro σ H4 ⟨rows, vf, h4, Iw, pS, rfl⟩
          refine ⟨rows, _, _, _, h4, fun j r e => ?_, rfl⟩
          rw [pS j r e, iq]
          by_cases hj : ((j : Nat) : Int) = x
          · rw [if_pos hj, if_pos ((Iv _).mpr (.inr hj))]
            simp
          · rw [if_neg hj]
            by_cases AW : ((j : Nat) : Int) ∈ os.take i
            · rw [if_pos AW, if_pos ((Iv _).mpr (.inl AW))]
            · rw [if_neg AW, if_neg (fun z => ((Iv _).mp z).elim AW hj)]
    · rintro σ H2 ⟨rows, vk, vg, vf, h2, hlen, rfl⟩
      refine k _ _ ⟨many, aB, kind, some (.int bP), o, rl, os, aH, rows, vk, vg, vf, h2, fun r gF => ?_, a1, a2, a3, rfl⟩
      obtain ⟨j, hj, rfl⟩ := List.getElem_of_mem gF
      rw [hlen j _ (List.getElem?_eq_getElem hj), if_pos]
      rw [iq, List.take_of_length_le (by rw [h2.oo.len]; simp)]
      exact h2.oo.all (by rw [h2.l2] at hj; exact hj)
  refine Ho.cons (fun σ H1 => ∃ (many aB : Nat) (kind : Int) (vl : Option V) (o rl : Addr) (os : List Int) (aH : List Addr) (rows : List (List Int)) (vk vg vf : Option V), NI H b o rl many os H1 aH rows ∧ (∀ r ∈ rows, r.length = aB) ∧ 1 ≤ many ∧ (many : Int) ≤ most ∧ (aB = 2 ∨ aB = 3) ∧
      σ = [some (.ref b), some (.int most), some (.int (many : Nat)), some (.int (aB : Nat)), some (.int kind), vl, some (.ref o), some (.ref rl), vk, vg, vf]) ⟨_, (kG (ej wV (pv 4) aA (bU _))
      (cg (i9 PassesOwn.never rfl (cT rfl bl.range_ (aw (pv 2) aN)) (dE (i := 8) bA.nd rfl (Or.inr rfl))
      (cg (lR (dg (bM (K := K) rfl) (pv 6) (pv 8) (fun _ _ => rfl)) (lQ (dg (bM (K := K) rfl) (pv 7) (dg (bM (K := K) rfl) (pv 6) (bf oN (pv 8) aA) (fun _ _ => rfl)) (fun _ _ => rfl)) (dF aV (hr.mono (by decide)) rfl ai.mg ai.fn.kp ai.bd .nil bt (aw (pv 0) (aw (pv 3) aN))) set_list)))))
      pss_nil), ?_⟩ ?_
  · rintro N σ H1 ⟨many, aB, kind, vl, o, rl, os, aH, rows, vk, vg, vf, h, hf, a1, a2, a3, rfl⟩ k
    refine ⟨_, rfl, _, _, rfl, rfl, _, rfl, ?_⟩
    refine kJ (fun _ => ?_) (fun _ => k _ _ ⟨many, aB, kind, vl, o, rl, os, aH, rows, vk, vg, vf, h, hf, a1, a2, a3, rfl⟩)
    refine ⟨_, rfl, _, rfl, by omega, by omega, ?_⟩
    refine kc (fun i σ H2 => ∃ (rows : List (List Int)) (vk : Option V), NI H b o rl many os H2 aH rows ∧ (∀ r ∈ rows, r.length = aB) ∧
      σ = [some (.ref b), some (.int most), some (.int (many : Nat)), some (.int (aB : Nat)), some (.int kind), vl, some (.ref o), some (.ref rl), vk, vg, vf]) ⟨rows, vk, h, hf, rfl⟩ (fun _ _ _ _ _ => cH) ?_ ?_
    · rintro i x σ H2 hx ⟨rows, vk, h2, mq, rfl⟩
      obtain ⟨rfl, hi⟩ := gY hx
      obtain ⟨y, Iz, IA⟩ := h2.oo.at (i := (i : Nat)) (by omega) hi a1
      obtain ⟨x, wK, wL⟩ := h2.oo.at (i := (i : Nat) - 1) (by omega) (by omega) a1
      obtain ⟨p, r, Iy, hp, jP, ye, Lz⟩ := h2.at wL
      refine ⟨_, rfl, _, rfl, o, _, _, _, rfl, rfl, a8.of h2.ord, Iz, _, rfl, _, rfl, _, rfl, _, _, rfl, rfl, o, _, _, _, rfl, rfl, a8.of h2.ord, wK, rl, _, _, _, rfl, rfl, a8.of h2.top, Iy, ?_⟩
      refine ⟨_, rfl, _, rfl, b, _, rfl, h2.bag, by omega, by omega, fun d H3 d0 d1 k3 IB => ?_⟩
      have h3 := h2.take k3 IB
      have yf := h3.row _ _ _ hp jP
      have lP := mq r (List.mem_of_getElem? jP)
      have IC : iC (r.map V.int).length d = some d.toNat := by
        unfold iC
        rw [if_pos d0, if_pos (by rw [List.length_map, lP]; exact d1)]
      refine ⟨p, _, _, d.toNat, rfl, rfl, yf, IC, ?_⟩
      have e6 : (r.map V.int).set d.toNat (.int y) = (r.set d.toNat y).map V.int := by rw [List.map_set]
      rw [e6]
      refine ⟨rows.set x.toNat (r.set d.toNat y), _, h3.put hp fun z hz => ?_, fun r2 CQ => ?_, rfl⟩
      · rcases List.mem_or_eq_of_mem_set hz with z1 | z1
        · exact h3.rng r (List.mem_of_getElem? jP) z z1
        · rw [z1]; exact h3.oo.mem IA
      · rcases List.mem_or_eq_of_mem_set CQ with z1 | z1
        · exact mq r2 z1
        · rw [z1, List.length_set]; exact lP
    · rintro σ H2 ⟨rows, vk, h2, mq, rfl⟩
      exact k _ _ ⟨many, aB, kind, vl, o, rl, os, aH, rows, vk, vg, vf, h2, mq, a1, a2, a3, rfl⟩
  refine Ho.cons (fun σ H1 => ∃ (many aB : Nat) (kind : Int) (vl : Option V) (o rl : Addr) (os : List Int) (aH : List Addr) (rows : List (List Int)) (vk vg vf : Option V), NI H b o rl many os H1 aH rows ∧ (∀ r ∈ rows, r.length = aB) ∧ 1 ≤ many ∧ (many : Int) ≤ most ∧ (aB = 2 ∨ aB = 3) ∧
      σ = [some (.ref b), some (.int most), some (.int (many : Nat)), some (.int (aB : Nat)), some (.int kind), vl, some (.ref o), some (.ref rl), vk, vg, vf]) ⟨_, (kG (ej oO (pv 4) aA (bU _))
      (cE (i9 PassesOwn.never rfl (cT rfl bl.range_ (aw (pv 2) aN)) (dE (i := 8) bA.nd rfl (Or.inr rfl))
      (cg (lR (bf yT (lY (aw (dg (bM (K := K) rfl) (pv 6) (pv 8) (fun _ _ => rfl)) aN)) (pv 3)) (lQ (pv 7) (dg (bM (K := K) rfl) (pv 6) (bf oN (pv 8) aA) (fun _ _ => rfl)) set_list))))
    (cg (lR (dF aV (hr.mono (by decide)) rfl ai.mg ai.fn.kp ai.bd .nil bt (aw (pv 0) (aw (pv 2) aN))) (lQ (dg (bM (K := K) rfl) (pv 7) aA (fun _ _ => rfl)) aA set_list))))
      pss_nil), ?_⟩ ?_
  · rintro N σ H1 ⟨many, aB, kind, vl, o, rl, os, aH, rows, vk, vg, vf, h, hf, a1, a2, a3, rfl⟩ k
    refine ⟨_, rfl, rfl, _, rfl, ?_⟩
    refine kJ (fun _ => ?_) (fun _ => k _ _ ⟨many, aB, kind, vl, o, rl, os, aH, rows, vk, vg, vf, h, hf, a1, a2, a3, rfl⟩)
    refine ⟨_, rfl, _, rfl, by omega, by omega, ?_⟩
    refine kc (fun i σ H2 => ∃ (aH : List Addr) (rows : List (List Int)) (vk : Option V), NI H b o rl many os H2 aH rows ∧ (∀ r ∈ rows, r.length = aB) ∧
      σ = [some (.ref b), some (.int most), some (.int (many : Nat)), some (.int (aB : Nat)), some (.int kind), vl, some (.ref o), some (.ref rl), vk, vg, vf]) ⟨aH, rows, vk, h, hf, rfl⟩ (fun _ _ _ _ _ => cH) ?_ ?_
    · rintro i x σ H2 hx ⟨aH, rows, vk, h2, mq, rfl⟩
      obtain ⟨rfl, hi⟩ := gY hx
      obtain ⟨y, Iz, IA⟩ := h2.oo.at (i := (i : Nat)) (by omega) hi a1
      obtain ⟨x, wK, wL⟩ := h2.oo.at (i := (i : Nat) - 1) (by omega) (by omega) a1
      refine ⟨_, rfl, _, rfl, o, _, _, _, rfl, rfl, a8.of h2.ord, Iz, (by show 1 ≤ sizeLine; decide), fun l1 iD => ?_⟩
      have h3 := h2.new iD (.lst [.int y])
      refine ⟨_, rfl, l1, _, _, rfl, rfl, aj, by omega, by omega, by show 1 * ((aB : Nat) : Int).toNat ≤ sizeLine; exact Nat.le_trans (show 1 * ((aB : Nat) : Int).toNat ≤ 3 by omega) (by decide), fun l2 fq => ?_⟩
      have Pz := h3.fresh fq
      have h4 := h3.new fq (.lst (List.replicate ((aB : Nat) : Int).toNat [V.int y]).flatten)
      have e5 : (List.replicate ((aB : Nat) : Int).toNat [V.int y]).flatten = (List.replicate aB y).map V.int := by
        rcases a3 with rfl | rfl <;> rfl
      obtain ⟨x0, x1⟩ := h4.oo.mem wL
      have IC : iC (aH.map V.ref).length x = some x.toNat := by
        unfold iC
        rw [if_pos x0, if_pos (by rw [List.length_map, h4.l1]; exact x1)]
      refine ⟨_, rfl, _, rfl, _, rfl, _, _, rfl, rfl, o, _, _, _, rfl, rfl, a8.of h4.ord, wK, rl, _, _, x.toNat, rfl, rfl, h4.top, IC, ?_⟩
      refine ⟨aH.set x.toNat l2, rows.set x.toNat (List.replicate aB y), _, h4.swap (by omega) Pz (by rw [aj, e5]) fun g hg => ?_, fun r gF => ?_, rfl⟩
      · rw [List.eq_of_mem_replicate hg]; exact h4.oo.mem IA
      · rcases List.mem_or_eq_of_mem_set gF with z1 | z1
        · exact mq r z1
        · rw [z1, List.length_replicate]
    · rintro σ H2 ⟨aH, rows, vk, h2, mq, rfl⟩
      have DM : 0 < aH.length := by rw [h2.l1]; omega
      have AU : 0 < rows.length := by rw [h2.l2]; omega
      refine ⟨_, rfl, _, rfl, b, _, rfl, h2.bag, by omega, by omega, fun d H3 d0 d1 k3 IB => ?_⟩
      have h3 := h2.take k3 IB
      have e1 : aH[0]? = some aH[0] := List.getElem?_eq_getElem DM
      have e2 : rows[0]? = some rows[0] := List.getElem?_eq_getElem AU
      have yf := h3.row _ _ _ e1 e2
      have lP := mq rows[0] (List.getElem_mem AU)
      refine ⟨_, rfl, rl, _, _, _, rfl, rfl, a8.of h3.top, cN (j := 0) (by rw [List.getElem?_map, e1]; rfl), _, _, _, 0, rfl, rfl, yf, ?_, ?_⟩
      · unfold iC
        rw [if_pos (by decide), if_pos (by rw [List.length_map, lP]; omega)]
        rfl
      have e6 : (rows[0].map V.int).set 0 (.int d) = (rows[0].set 0 d).map V.int := by rw [List.map_set]
      rw [e6]
      refine k _ _ ⟨many, aB, kind, vl, o, rl, os, aH, rows.set 0 (rows[0].set 0 d), vk, vg, vf, h3.put e1 fun z hz => ?_, fun r2 CQ => ?_, a1, a2, a3, rfl⟩
      · rcases List.mem_or_eq_of_mem_set hz with z1 | z1
        · exact h3.rng _ (List.getElem_mem AU) z z1
        · rw [z1]; exact ⟨d0, d1⟩
      · rcases List.mem_or_eq_of_mem_set CQ with z1 | z1
        · exact mq r2 z1
        · rw [z1, List.length_set]; exact lP
  refine Ho.last ⟨_, (i7 (jK (eX (K := K) rfl) rfl bl.tuple_ dU (aw (j1 (N' := ["_law_row"]) (tn := 1) (idx := []) rfl (show aO ["_law_bag_here", "_law_most", "_law_many", "_law_fans", "_law_kind", "_law_lap", "_law_order_here", "_law_rows", "_law_k", "_law_goals", "_law_fan"] (ak dX) _ ["_law_row"] 1 [] from by decide +kernel) (BO (K := K) rfl (pv 7)) (fun _ _ _ _ _ => (dE (i := 0) (show List.Nodup [("_law_row" : Str)] from by decide +kernel) rfl (Or.inl rfl))) (fun _ _ _ _ _ => qb) (fun _ _ _ _ _ => (jK (eX (K := K) rfl) rfl bl.tuple_ dU (aw (pv 0) aN)))) aN))), ?_⟩
  rintro σ H1 ⟨many, aB, kind, vl, o, rl, os, aH, rows, vk, vg, vf, h, hf, a1, a2, a3, rfl⟩
  have e0 : a8 K H1 rl (aH.map V.ref) := a8.of h.top
  refine ⟨_, rfl, rl, rfl, ⟨_, e0⟩, fun dl pR => ?_⟩
  have fd := h.fresh pR
  refine zk (xs := aH.map V.ref) (jm := [none]) (fun i acc H2 => NI H b o rl many os H2 aH rows ∧ H2 dl = some (.lst acc) ∧ Paired (kQ H2) acc (rows.take i)) (fun i acc H2 _ h2 => zj (a8.of h2.1.top)) ⟨h.new pR _, aj, .nil⟩ ?_ ?_
  · rintro i x acc H2 hx ⟨h2, hd2, pr⟩ R hR
    rw [List.getElem?_map] at hx
    cases ep : aH[i]? with
    | none => rw [ep] at hx; cases hx
    | some p =>
      rw [ep] at hx
      obtain rfl : x = .ref p := (Option.some.inj hx).symm
      have hi : i < rows.length := by rw [h2.l2, ← h2.l1]; exact (List.getElem?_eq_some_iff.mp ep).1
      have er : rows[i]? = some rows[i] := List.getElem?_eq_getElem hi
      have ye := h2.row _ _ _ ep er
      refine ⟨_, rfl, p, _, rfl, .inl ⟨a8.of ye, fun t ht => ?_⟩⟩
      have kk : bq H2 (upd H2 t (.tup (rows[i].map V.int))) := .new ht _
      have hl := pr.length
      have dt : dl ≠ t := av hd2 ht
      refine hR _ _ (kk.lst hd2) (by rw [hl, List.length_take]; exact Nat.lt_of_le_of_lt (show min i rows.length ≤ 1000 by have := h2.l2; omega) (by decide)) ⟨(h2.new ht _).other fd _, aj, ?_⟩
      rw [List.take_add_one, er]
      have mv : ∀ v r, kQ H2 v r → kQ (upd (upd H2 t (.tup (rows[i].map V.int))) dl (.lst (acc ++ [.ref t]))) v r := fun v r ⟨a, e1, e2⟩ => ⟨a, e1, by
        rw [ae (fun z => by rw [z, hd2] at e2; cases e2)]
        exact kk.tup e2⟩
      refine Paired.snoc (Paired.sL pr mv) ⟨t, rfl, by rw [ae (Ne.symm dt)]; exact aj⟩
  · rintro acc H2 ⟨h2, hd2, pr⟩
    refine ⟨dl, acc, rfl, .inl ⟨a8.of hd2, fun a ha => ?_⟩⟩
    have kk : bq H2 (upd H2 a (.tup acc)) := .new ha _
    have hlen : (aH.map V.ref).length = many := by rw [List.length_map, h2.l1]
    rw [hlen, List.take_of_length_le (by rw [h2.l2]; exact Nat.le_refl _)] at pr
    refine q (.ref a) rows aB _ ⟨a, acc, rfl, aj, Paired.sL pr fun v r hv => hv.keep kk⟩ ⟨by rw [h2.l2]; exact a1, by rw [h2.l2]; omega, a3, fun r gF => ⟨hf r gF, fun g hg => ?_⟩⟩ (h2.kp.trans (kk.but b)) (h2.bag.keep kk) (by rw [h2.l2]; exact a2)
    rw [h2.l2]
    exact h2.rng r gF g hg
end
section
variable {P : Program} {w : World} {K : PySem.W.Frag} {mg : Str → Option Value} {base : Heap} {tb : cU} {k : Nat} {f : Addr} {fd : FuncData} {ps : List Str}
noncomputable def IE : dj := fun ds M Q _ => ∃ (ns : List Int) (t : Int), ds = [.bO ns, .int t] ∧ ns.length ≤ 63 ∧ 0 ≤ t ∧ t ≤ 63 ∧ ∀ b, M b = none → Q (.ptr b) (bK M b .bag)
theorem JY (G : FnOk P w K mg base bz k f fd ps (D5 K)) : FnOk P w K mg base bz k f fd ps (bh P w K tb IE) := G.imp fun vs H Q E ⟨β, ds, M, Q', E', eP, ew, eK, et, m, rs, ⟨ns, t, e, h1, h2, h3, h⟩, q, _⟩ => by
  subst e
  obtain ⟨x, y, rfl, r1, r2⟩ := eC rs
  obtain ⟨a, rfl, hS⟩ := rp r1
  rw [eK] at hS
  refine ⟨a, ns, t, by rw [aG r2], hS, h1, h2, h3, fun b H' hb k hB => ?_⟩
  exact q _ _ _ _ (Ex.bag m hb k hB) (.ptr (by rw [updM_same]; rfl)) (h b (m.free hb))
noncomputable def sI : dj := fun ds M Q _ => ∃ (b : Addr) (n : Int), ds = [.ptr b, .int n] ∧ M b = some .bag ∧ 1 ≤ n ∧ n < 1073741824 ∧ ∀ d : Nat, (d : Int) < n → Q (.int (d : Nat)) M
theorem IG (G : FnOk P w K mg base bz k f fd ps ng) : FnOk P w K mg base bz k f fd ps (bh P w K tb sI) := G.imp fun vs H Q E ⟨β, ds, M, Q', E', eP, ew, eK, et, m, rs, ⟨b, n, e, hb, h1, h2, h⟩, q, _⟩ => by
  subst e
  obtain ⟨x, y, rfl, r1, r2⟩ := eC rs
  obtain ⟨rfl, _⟩ := cX r1
  refine ⟨b, n, by rw [aG r2], m.obj b _ hb, h1, h2, fun d H' d0 d1 kb hB => ?_⟩
  obtain ⟨c, rfl⟩ := Int.eq_ofNat_of_zero_le d0
  exact q _ _ _ _ (Ex.t8 m hb kb hB) (.int _) (h c d1)
noncomputable def Ea : dj := fun ds M Q _ => ∃ (b : Addr) (most : Nat), ds = [.ptr b, .int (most : Nat)] ∧ M b = some .bag ∧ 1 ≤ most ∧ most ≤ 9 ∧ ∀ af n, cA af n → af.length ≤ most → Q (eN af) M
theorem JZ (G : FnOk P w K mg base bz k f fd ps AV) : FnOk P w K mg base bz k f fd ps (bh P w K tb Ea) := G.imp fun vs H Q E ⟨β, ds, M, Q', E', eP, ew, eK, et, m, rs, ⟨b, n, e, hb, h1, h2, h⟩, q, _⟩ => by
  subst e
  obtain ⟨x, y, rfl, r1, r2⟩ := eC rs
  obtain ⟨rfl, _⟩ := cX r1
  refine ⟨b, n, by rw [aG r2], m.obj b _ hb, by omega, by omega, fun v af w H' hN hO kb hB hl => ?_⟩
  have x := Ex.t8 m hb kb hB
  exact q _ _ _ _ x (Ib x.mz hN) (h af w hO (by omega))
end
section
variable {P : Program} {w : World} {K : PySem.W.Frag} {mg : Str → Option Value} {base : Heap} {tb : List Addr}
theorem kD : aJ ["_law_bag_here", "_law_many", "_law_bits"] ["_law_bag_here", "_law_many"] (ak eh) := ⟨rfl, rfl, rfl, by decide +kernel, rfl, by decide +kernel, by decide +kernel⟩
noncomputable def nh (bits : Int) (p : Int) : Bool := decide (V.int (Builtin.bitAnd (bits / 2 ^ p.toNat) 1) = V.int 1)
theorem oF {bits : Int} {p : Nat} (h : 0 ≤ bits) : nh bits (p : Nat) = true ↔ (bits / 2 ^ p) % 2 = 1 := by
  unfold nh
  have h0 : 0 ≤ bits / 2 ^ p := Int.ediv_nonneg h (Int.le_of_lt (Int.pow_pos (by decide)))
  rw [Int.toNat_natCast, bitAnd_pp h0 (by decide), decide_eq_true_iff]
  have e : ((bits / 2 ^ p).toNat &&& (1 : Int).toNat : Nat) = (bits / 2 ^ p).toNat % 2 := Nat.and_one_is_mod _
  rw [e]
  constructor
  · intro z
    injection z with z
    omega
  · intro z
    exact congrArg V.int (by omega)
theorem uS : ∀ (m : Nat) {bits : Int}, 1 ≤ bits → bits < 2 ^ m → ∃ p : Nat, p < m ∧ nh bits (p : Nat) = true
  | 0, bits, h1, h2 => by
    rw [Int.pow_zero] at h2
    omega
  | m + 1, bits, h1, h2 => by
    by_cases hb : bits % 2 = 1
    · refine ⟨0, Nat.succ_pos _, (oF (by omega)).mpr ?_⟩
      rw [Int.pow_zero, Int.ediv_one]
      exact hb
    · have e : (2 : Int) ^ (m + 1) = 2 ^ m * 2 := Int.pow_succ _ _
      obtain ⟨p, hp, hq⟩ := uS m (bits := bits / 2) (by omega) (by omega)
      refine ⟨p + 1, by omega, (oF (by omega)).mpr ?_⟩
      have := (oF (by omega)).mp hq
      rw [Int.ediv_ediv_of_nonneg (by decide)] at this
      rw [Int.pow_succ, Int.mul_comm]
      exact this
theorem rZ (n : Nat) : (bg n).Pairwise (· < ·) := by
  unfold bg
  exact List.pairwise_map.mpr (List.pairwise_lt_range.imp fun h => by omega)
theorem pT {n : Nat} {p : Int} : p ∈ bg n ↔ 0 ≤ p ∧ p < (n : Int) := by
  unfold bg
  rw [List.mem_map]
  constructor
  · rintro ⟨i, hi, rfl⟩
    rw [List.mem_range] at hi
    omega
  · rintro ⟨h0, h1⟩
    exact ⟨p.toNat, by rw [List.mem_range]; omega, by omega⟩
noncomputable def qC (m : Nat) (bits : Int) : List Int := (bg m).filter fun p => nh bits p
theorem yg {m : Nat} {bits : Int} (h1 : 1 ≤ bits) (h2 : bits < 2 ^ m) : j0 m (qC m bits) := by
  refine ⟨List.Pairwise.filter _ (rZ m), fun p hp => pT.mp (List.mem_filter.mp hp).1, fun e => ?_⟩
  obtain ⟨p, hp, hq⟩ := uS m h1 h2
  have : ((p : Nat) : Int) ∈ qC m bits := List.mem_filter.mpr ⟨pT.mpr ⟨by omega, by omega⟩, hq⟩
  rw [e] at this
  cases this
theorem vE {α : Type} (p : α → Bool) {l : List α} {i : Nat} {v : α} (h : l[i]? = some v) : (l.take (i + 1)).filter p = (l.take i).filter p ++ (if p v then [v] else []) := by
  rw [List.take_add_one, h, List.filter_append]
  cases hp : p v <;> simp [hp]
noncomputable def uT : Sp := fun vs H Q _ => ∃ (b : Addr) (m : Nat), vs = [.ref b, .int (m : Nat)] ∧ bH H b ∧ 1 ≤ m ∧ m ≤ 9 ∧ ∀ (l : Addr) (ns : List Int) (H' : Hp), j0 m ns → aM b H H' → bH H' b → H' l = some (.tup (ns.map V.int)) → Q (.ref l) H'
theorem sd {f f1 : Addr} {fd bp : FuncData} (D : Df K mg "_law_places" eh ["_law_bag_here", "_law_many"] f fd) (ai : Df K mg "_law_take" cI ["_law_bag_here", "_law_many"] f1 bp) (bl : Bl mg) :
    FnOk P w K mg base bz 2 f fd ["_law_bag_here", "_law_many"] uT := by
  have aV : FnOk P w K mg base bz 1 f1 bp ["_law_bag_here", "_law_many"] ng := g7 ai
  refine D.fn.ok kD (fun vs H Q E h => ?_) (fun cy A outer s H vs Q E hr h => ?_)
  · obtain ⟨b, m, rfl, _⟩ := h
    rfl
  obtain ⟨b, m, rfl, hB, m1, m9, q⟩ := h
  have pw : ∀ m : Nat, 1 ≤ m → m ≤ 9 → (2 : Int) ≤ 2 ^ m ∧ (2 : Int) ^ m ≤ 512 := fun m h1 h2 => by
    have : m = 1 ∨ m = 2 ∨ m = 3 ∨ m = 4 ∨ m = 5 ∨ m = 6 ∨ m = 7 ∨ m = 8 ∨ m = 9 := by omega
    rcases this with rfl | rfl | rfl | rfl | rfl | rfl | rfl | rfl | rfl <;> decide
  obtain ⟨w1, w2⟩ := pw m m1 m9
  refine ⟨_, (cE (bT (i := 2) kD.nd rfl (Or.inr rfl) (bf eO aA (dF aV (hr.mono (by decide)) rfl ai.mg ai.fn.kp ai.bd .nil bt (aw (pv 0) (aw (bf oN (bf Ge aA (pv 1)) aA) aN)))))
    (cg (i7 (jK (eX (K := K) rfl) rfl bl.tuple_ dU (aw (j1 (N' := ["_law_place", "_law_bits"]) (tn := 1) (idx := [2]) rfl (show aO ["_law_bag_here", "_law_many", "_law_bits"] (ak eh) _ ["_law_place", "_law_bits"] 1 [2] from by decide +kernel) (cT rfl bl.range_ (aw (pv 1) aN)) (fun _ _ _ _ _ => (dE (i := 0) (show List.Nodup [("_law_place" : Str), ("_law_bits" : Str)] from by decide +kernel) rfl (Or.inl rfl))) (fun _ _ _ _ _ => (vZ (ej oO (bf Gg (bf Gf (pv 1) (pv 0)) aA) aA (bU _)))) (fun _ _ _ _ _ => (pv 0))) aN))))), ?_⟩
  refine ⟨_, rfl, _, rfl, _, _, rfl, rfl, ?_, _, _, rfl, rfl, b, _, rfl, hB, ?_, ?_, fun d H1 d0 d1 k1 fM => ?_⟩
  · exact ⟨by omega, by omega, by decide⟩
  · have e : (1 : Int) * 2 ^ ((m : Nat) : Int).toNat = 2 ^ m := by rw [Int.toNat_natCast, Int.one_mul]
    show (1 : Int) ≤ 1 * 2 ^ ((m : Nat) : Int).toNat - 1
    rw [e]; omega
  · have e : (1 : Int) * 2 ^ ((m : Nat) : Int).toNat = 2 ^ m := by rw [Int.toNat_natCast, Int.one_mul]
    show (1 : Int) * 2 ^ ((m : Nat) : Int).toNat - 1 < 1073741824
    rw [e]; omega
  have e : (1 : Int) * 2 ^ ((m : Nat) : Int).toNat = 2 ^ m := by rw [Int.toNat_natCast, Int.one_mul]
  have PB : d < 1 * 2 ^ ((m : Nat) : Int).toNat - 1 := d1
  rw [e] at PB
  have sk := yg (m := m) (bits := 1 + d) (by omega) (by omega)
  refine ⟨_, _, rfl, rfl, ?_⟩
  refine ⟨_, rfl, _, rfl, by omega, by omega, fun dl pR => ?_⟩
  have gj : dl ≠ b := by obtain ⟨c, mm, e, _⟩ := fM; exact (av e pR).symm
  rw [Int.toNat_natCast]
  refine tturn_of (xs := (bg m).map V.int) (jm := [none, some (.int (1 + d))]) (fun i acc H2 => bq H1 H2 ∧ H2 dl = some (.lst acc) ∧ acc = (((bg m).take i).filter fun p => nh (1 + d) p).map V.int) (fun i acc H2 _ _ => by
    have := cH (lo := 0) (n := m) (H := H2)
    rw [uL] at this
    exact this) ⟨.new pR _, aj, rfl⟩ ?_ ?_
  · rintro i v acc H2 hv ⟨k2, hd2, js⟩ R1 R2 Ir Iu
    obtain ⟨rfl, hi⟩ := AJ hv
    have PD : (bg m)[i]? = some ((i : Nat) : Int) := by simp [bg, hi]
    have hf := vE (fun p => nh (1 + d) p) PD
    refine ⟨_, rfl, _, rfl, _, _, rfl, rfl, (by show (0 : Int) ≤ ((i : Nat) : Int); omega), _, _, rfl, rfl, rfl, _, rfl, ?_⟩
    refine kJ (fun cc => ?_) (fun cc => ?_)
    · refine ⟨_, rfl, Ir _ _ hd2 ?_ ⟨k2.over pR, aj, ?_⟩⟩
      · rw [js, List.length_map]
        refine Nat.lt_of_le_of_lt (List.length_filter_le _ _) ?_
        rw [List.length_take, x8]
        exact Nat.lt_of_le_of_lt (show min i m ≤ 9 by omega) (by decide)
      · rw [hf, if_pos (show nh (1 + d) ((i : Nat) : Int) = true from cc), js, List.map_append]
        rfl
    · refine Iu _ ⟨k2, hd2, ?_⟩
      rw [hf, if_neg (show ¬ nh (1 + d) ((i : Nat) : Int) = true from cc), js, List.append_nil]
  · rintro acc H2 ⟨k2, hd2, js⟩
    rw [List.length_map, List.take_length] at js
    refine ⟨dl, acc, rfl, .inl ⟨a8.of hd2, fun t ht => ?_⟩⟩
    have k3 : bq H2 (upd H2 t (.tup acc)) := .new ht _
    refine q t (qC m (1 + d)) _ sk ((k1.trans (k2.but b)).trans (k3.but b)) ((fM.keep k2).keep k3) ?_
    rw [aj, js]
    rfl
end
section
variable {P : Program} {w : World} {K : PySem.W.Frag} {mg : Str → Option Value} {base : Heap} {tb : cU} {k : Nat} {f : Addr} {fd : FuncData} {ps : List Str}
noncomputable def uU : dj := fun ds M Q _ => ∃ (b : Addr) (m : Nat), ds = [.ptr b, .int (m : Nat)] ∧ M b = some .bag ∧ 1 ≤ m ∧ m ≤ 9 ∧ ∀ ns, j0 m ns → Q (eI ns) M
theorem CT (G : FnOk P w K mg base bz k f fd ps uT) : FnOk P w K mg base bz k f fd ps (bh P w K tb uU) := G.imp fun vs H Q E ⟨β, ds, M, Q', E', eP, ew, eK, et, m, rs, ⟨b, n, e, hb, h1, h2, h⟩, q, _⟩ => by
  subst e
  obtain ⟨x, y, rfl, r1, r2⟩ := eC rs
  obtain ⟨rfl, _⟩ := cX r1
  refine ⟨b, n, by rw [aG r2], m.obj b _ hb, h1, h2, fun l ns H' hS kb hB hl => ?_⟩
  have x := Ex.t8 m hb kb hB
  have fz : Fz β M l := ⟨x.mz.jv hl rfl, fun z => by
    obtain ⟨o, h, n⟩ := x.mz.hids l z
    rw [hl] at h
    cases h
    cases n⟩
  exact q _ _ _ _ x (fH fz hl jz) (h ns hS)
end
section
variable {P : Program} {w : World} {K : PySem.W.Frag} {mg : Str → Option Value} {base : Heap} {tb : cU}
theorem gG : aJ ["_law_bag_here", "_law_net_here", "_law_most", "_law_word_here", "_law_k"] ["_law_bag_here", "_law_net_here", "_law_most"] (ak g6) := ⟨rfl, rfl, rfl, by decide +kernel, rfl, by decide +kernel, by decide +kernel⟩
theorem da.app {n : Nat} {y z : Str} (hy : da n y) (hz : da n z) : da n (y ++ z) := fun c hc => by
  rw [show (y ++ z).cps = y.cps ++ z.cps from rfl, Array.toList_append, List.mem_append] at hc
  exact hc.elim (hy c) (hz c)
theorem yh {n : Nat} : da n "" := fun c hc => by rw [show ("" : Str).cps.toList = [] from by decide +kernel] at hc; cases hc
theorem yi {n k : Nat} (h : k < n) : da n ⟨#[97 + k]⟩ := fun c hc => ⟨k, h, by simpa using hc⟩
noncomputable def AX : dj := fun ds M Q _ => ∃ (b : Addr) (af : List (List Int)) (n most : Nat), ds = [.ptr b, eN af, .int (most : Nat)] ∧ M b = some .bag ∧ cA af n ∧ most ≤ 100 ∧ ∀ z : Str, z.length ≤ most → da n z → Q (.str z) M
theorem vF {f f1 : Addr} {fd bp : FuncData} (D : Df K mg "_law_word" g6 ["_law_bag_here", "_law_net_here", "_law_most"] f fd)
    (ai : Df K mg "_law_take" cI ["_law_bag_here", "_law_many"] f1 bp) (aV : FnOk P w K mg base bz 1 f1 bp ["_law_bag_here", "_law_many"] (bh P w K tb sI)) (bl : Bl mg) :
    FnOk P w K mg base bz 2 f fd ["_law_bag_here", "_law_net_here", "_law_most"] (bh P w K tb AX) := by
  refine ix D gG (fun ds M Q E hS => by obtain ⟨b, af, n, most, e, _⟩ := hS; rw [e]; rfl) fun A outer s E Γ ds Q' E' hP hw hK ht hr hS => ?_
  obtain ⟨b, af, n, most, e, hb, o, hm, q⟩ := hS
  refine ⟨_, (az (cw (i := 3) gG.nd rfl (Or.inl rfl) bJ)
    (az (pA PassesOwn.never rfl (il rfl bl.range_ (aa (aE aV (hr.mono (by decide)) rfl ai.mg ai.fn.kp ai.bd bt hP hw hK ht XR.none (aa (qv 0) (aa (dC JO (qv 2) aU) ah))) ah)) (fun DX eP ew eK et => by have hP := hP.trans eP.symm; have hw := hw.trans ew.symm; have hK := hK.trans eK.symm; have ht := ht.trans et.symm; exact ⟨(cZ (i := 4) gG.nd rfl (Or.inl rfl)), (ay (cw (i := 3) gG.nd rfl (Or.inl rfl) (dC jT (qv 3) (fP (iw (K := K) rfl) bJ (aE aV (hr.mono (by decide)) rfl ai.mg ai.fn.kp ai.bd bt hP hw hK ht XR.none (aa (qv 0) (aa (aF (eL (K := K) rfl hK) rfl bl.len_ PySem.boot_len (aa (fP (iw (K := K) rfl) (qv 1) aU (fun _ _ => rfl)) ah)) ah))) (fun _ _ => rfl)))))⟩))
    (ay (bj (qv 3))))), ?_⟩
  subst e
  obtain ⟨r, h0, hl⟩ := qw o
  have big : (200 : Nat) < sizeLine := by decide
  simp! only []
  refine ⟨b, (most : Int) + 1, rfl, hb, by omega, by omega, fun d hd => ?_⟩
  refine ⟨by omega, by omega, ?_⟩
  simp! only []
  refine mM (fun i ρ M => (∃ x z, ρ = [some (.ptr b), some (eN af), some (.int (most : Nat)), some (.str z), x] ∧ z.length ≤ i ∧ da n z) ∧ M = Γ.M0) ⟨⟨_, "", rfl, Nat.le_refl _, yh⟩, rfl⟩ (fun i d ρ M N hd ⟨⟨x, z, e, hz, hW⟩, eM⟩ hN => ?_) (fun ρ M ⟨⟨x, z, e, hz, hW⟩, eM⟩ => ?_)
  · subst e eM
    obtain ⟨rfl, hi⟩ := jV hd
    have Eb := o.wid
    simp! only [h0, hl, eN, eI]
    refine ⟨b, n, rfl, hb, by omega, by omega, fun k hk => ?_⟩
    simp! only [Fc (show k < 3 by omega)]
    refine ⟨by decide, ?_, hN _ _ ⟨⟨_, _, rfl, ?_, hW.app (yi (by omega))⟩, rfl⟩⟩
    · show z.length + 1 ≤ sizeLine
      omega
    · rw [iQ]; show z.length + 1 ≤ i + 1; omega
  · subst e eM
    rw [rangeD_len] at hz
    exact .inl (q z (by omega) hW)
end
section
variable {P : Program} {w : World} {K : PySem.W.Frag} {mg : Str → Option Value} {base : Heap} {tb : cU}
theorem fi : aJ ["_law_bag_here", "_law_net_here", "_law_places_here", "_law_last", "_law_some"] ["_law_bag_here", "_law_net_here", "_law_places_here"] (ak fS) := ⟨rfl, rfl, rfl, by decide +kernel, rfl, by decide +kernel, by decide +kernel⟩
noncomputable def ni (m : Nat) (d : Dv) : Prop := mY d ∧ eV m d = false
theorem AY {m : Nat} {ds : List Dv} {d : Dv} (hd : d ∈ ds) (h : bF m d = false) : ds.all (bF m) = false := by
  rw [List.all_eq_false]
  exact ⟨d, hd, by rw [h]; exact Bool.false_ne_true⟩
theorem eW {m : Nat} {ds : List Dv} {d : Dv} (hk : ∀ d ∈ ds, iy d = true) (hl : ds.length ≤ 20) (hd : d ∈ ds) (h : bF m d = false) : ni m (.tup ds) :=
  ⟨⟨hk, hl⟩, by simp only [eV, AY hd h, Bool.and_false, Bool.false_and]⟩
theorem ly {ns : List Int} : ∀ d ∈ ns.map Dv.int, iy d = true := fun d hd => by
  obtain ⟨i, _, rfl⟩ := List.mem_map.mp hd
  rfl
theorem pU {m : Nat} {ns : List Int} (hl : ns.length ≤ 20) (h : ns ≠ qz ns) : ni m (eI ns) :=
  ⟨⟨ly, by rw [List.length_map]; exact hl⟩, by simp only [eV, sH, dQ, decide_eq_false h, Bool.and_false]⟩
noncomputable def nj (m : Nat) (ns : List Int) (l : Int) : List Dv := [.tup [], .lst (ns.map Dv.int), .tup (ns.map Dv.int ++ [.int (m : Nat)]), .tup ([.int (-1)] ++ ns.map Dv.int), .tup (ns.map Dv.int ++ [.int l]), .tup [.int 1, .int 0], .aq, .str "0", .int 0, .bl true] ++
  [.tup [.bl true], .tup [.int 0, .aq], .tup (ns.map Dv.int ++ [.int (10 ^ Int.toNat 30)]), .tup [.tup (ns.map Dv.int)], .tup [.str "0"], .tup [.int (m : Nat)]]
theorem AZ {m : Nat} {ns : List Int} {l : Int} (hS : j0 m ns) (h9 : m ≤ 9) (hl : l ∈ ns) : ∀ d ∈ nj m ns l, ni m d := fun d hd => by
  have hlen := hS.len
  have big : (10 : Int) ^ Int.toNat 30 = 1000000000000000000000000000000 := by decide +kernel
  have app : ∀ x : Int, bF m (.int x) = false → ni m (.tup (ns.map Dv.int ++ [.int x])) := fun x hx => eW (d := .int x) (fun d hd => by
    rcases List.mem_append.mp hd with hd | hd
    · exact ly d hd
    · rw [List.mem_singleton] at hd; subst hd; rfl) (by simp; omega) (by simp) hx
  simp only [nj, List.mem_append, List.mem_cons, List.not_mem_nil, or_false] at hd
  rcases hd with (rfl | rfl | rfl | rfl | rfl | rfl | rfl | rfl | rfl | rfl) | (rfl | rfl | rfl | rfl | rfl | rfl)
  · exact ⟨⟨fun d h => (by cases h), by simp⟩, rfl⟩
  · exact ⟨rfl, rfl⟩
  · exact app _ (by simp [bF])
  · exact eW (d := .int (-1)) (fun d hd => by
      rcases List.mem_append.mp hd with hd | hd
      · rw [List.mem_singleton] at hd; subst hd; rfl
      · exact ly d hd) (by simp; omega) (by simp) (by simp [bF])
  · have e : ns.map Dv.int ++ [.int l] = (ns ++ [l]).map Dv.int := by simp
    rw [e]
    refine pU (by simp; omega) fun z => ?_
    have st := j6 (ns ++ [l])
    rw [← z, List.pairwise_append] at st
    have := st.2.2 l hl l List.mem_cons_self
    omega
  · exact pU (ns := [1, 0]) (by decide) fun z => by
      have st := j6 [1, 0]
      rw [← z] at st
      have := (List.pairwise_cons.mp st).1 0 List.mem_cons_self
      omega
  · exact ⟨rfl, rfl⟩
  · exact ⟨rfl, rfl⟩
  · exact ⟨rfl, rfl⟩
  · exact ⟨rfl, rfl⟩
  · exact eW (d := .bl true) (fun d hd => by rw [List.mem_singleton] at hd; subst hd; rfl) (by simp) (by simp) rfl
  · exact eW (d := .aq) (fun d hd => by simp at hd; rcases hd with rfl | rfl <;> rfl) (by decide) (by simp) rfl
  · exact app _ (by simp only [bF, Bool.and_eq_false_iff, decide_eq_false_iff_not]; right; omega)
  · exact eW (d := .tup (ns.map Dv.int)) (fun d hd => by rw [List.mem_singleton] at hd; subst hd; rfl) (by simp) (by simp) rfl
  · exact eW (d := .str "0") (fun d hd => by rw [List.mem_singleton] at hd; subst hd; rfl) (by simp) (by simp) rfl
  · exact eW (d := .int (m : Nat)) (fun d hd => by rw [List.mem_singleton] at hd; subst hd; rfl) (by simp) (by simp) (by simp [bF])
noncomputable def A0 : dj := fun ds M Q _ => ∃ (b : Addr) (af : List (List Int)) (n : Nat) (ns : List Int), ds = [.ptr b, eN af, eI ns] ∧ M b = some .bag ∧ cA af n ∧ j0 af.length ns ∧ ∀ d, ni af.length d → Q d M
theorem se {f f1 : Addr} {fd bp : FuncData} (D : Df K mg "_law_no_set" fS ["_law_bag_here", "_law_net_here", "_law_places_here"] f fd)
    (ai : Df K mg "_law_take" cI ["_law_bag_here", "_law_many"] f1 bp) (aV : FnOk P w K mg base bz 1 f1 bp ["_law_bag_here", "_law_many"] (bh P w K tb sI)) (bl : Bl mg) :
    FnOk P w K mg base bz 2 f fd ["_law_bag_here", "_law_net_here", "_law_places_here"] (bh P w K tb A0) := by
  refine ix D fi (fun ds M Q E hS => by obtain ⟨b, af, n, ns, e, _⟩ := hS; rw [e]; rfl) fun A outer s E Γ ds Q' E' hP hw hK ht hr hS => ?_
  obtain ⟨b, af, n, ns, e, hb, O, hS, q⟩ := hS
  refine ⟨_, (az (cw (i := 3) fi.nd rfl (Or.inl rfl) (aF (eL (K := K) rfl hK) rfl bl.len_ PySem.boot_len (aa (qv 1) ah)))
    (az (cw (i := 4) fi.nd rfl (Or.inl rfl) (ik (aa (c9 ah) (aa (gq (z9 (K := K) rfl) rfl bl.list_ v7 (aa (qv 2) ah)) (aa (dC (pC (K := K) rfl) (qv 2) (c9 (aa (qv 3) ah))) (aa (dC (pC (K := K) rfl) (c9 (aa (Ac aU) ah)) (qv 2)) (aa (dC (pC (K := K) rfl) (qv 2) (c9 (aa (fP (iw (K := K) rfl) (qv 2) (Ac aU) (fun _ _ => rfl)) ah))) (aa (c9 (aa aU (aa aU ah))) (aa t9 (aa bJ (aa aU (aa e7 ah))))))))))))
    (az (cw (i := 4) fi.nd rfl (Or.inl rfl) (dC (Al (K := K) rfl) (qv 4) (ik (aa (c9 (aa e7 ah)) (aa (c9 (aa aU (aa t9 ah))) (aa (dC (pC (K := K) rfl) (qv 2) (c9 (aa (dC JQ aU aU) ah))) (aa (c9 (aa (qv 2) ah)) (aa (c9 (aa bJ ah)) (aa (c9 (aa (qv 3) ah)) ah)))))))))
    (ay (bj (fP (iw (K := K) rfl) (qv 4) (aE aV (hr.mono (by decide)) rfl ai.mg ai.fn.kp ai.bd bt hP hw hK ht XR.none (aa (qv 0) (aa aU ah))) (fun _ _ => rfl))))))), ?_⟩
  subst e
  have h9 := O.nine
  have hlen := hS.len
  have big : (100 : Nat) < sizeLine := by decide
  have kW : 0 < (ns.map Dv.int).length := by
    rw [List.length_map]
    exact Nat.pos_of_ne_zero fun z => hS.ne (List.eq_nil_of_length_eq_zero z)
  obtain ⟨x, PF, hx⟩ := wJ kW
  obtain ⟨l, hl, rfl⟩ := List.mem_map.mp hx
  simp! only [PF]
  refine ⟨by omega, by omega, by omega, by omega, by omega, by omega, by omega, by omega, by omega, by omega, by omega, ⟨by decide, by decide, by decide⟩, by omega, by omega, by omega, by omega, by omega, by omega, by omega, b, 16, rfl, hb, by decide, by decide, fun d hd => ?_⟩
  have IH : d < (nj af.length ns l).length := by show d < 16; omega
  have e := cN (List.getElem?_eq_getElem IH)
  have e2 := AZ hS h9 hl _ (List.getElem_mem IH)
  generalize (nj af.length ns l)[d] = r at e e2
  show (match dO (nj af.length ns l) ((d : Nat) : Int) with | some r => ou Γ.M0 Q' r Γ.M0 | none => False)
  rw [e]
  exact .inl (q _ e2)
end
theorem yj {z : Str} {n : Int} (h1 : 1 ≤ n) (h2 : n ≤ 10000) (hz : z.length ≤ 100) : MulOk z n := by
  have hm : z.length * n.toNat ≤ 100 * 10000 := Nat.mul_le_mul hz (by omega)
  refine ⟨?_, fun _ _ => ?_, fun _ _ => ?_⟩
  · rw [decide_eq_false (by omega), decide_eq_false (by omega)]
    rfl
  · have : (2 ^ 63 - 1) / 10000 ≤ (2 ^ 63 - 1) / n := by
      refine Int.le_ediv_of_mul_le (by omega) ?_
      have := Int.mul_le_mul_of_nonneg_left h2 (show (0 : Int) ≤ (2 ^ 63 - 1) / 10000 by decide)
      exact Int.le_trans this (by decide)
    have h3 : (100 : Int) ≤ (2 ^ 63 - 1) / 10000 := by decide
    omega
  · unfold Builtin.Str.tooLong
    refine decide_eq_false ?_
    have : (1000000 : Nat) ≤ sizeLine := by decide
    omega
section
variable {P : Program} {w : World} {K : PySem.W.Frag} {mg : Str → Option Value} {base : Heap} {tb : cU}
theorem gH : aJ ["_law_script", "_law_k", "_law_bag_here", "_law_net_here", "_law_places_here", "_law_word_here", "_law_none", "_law_bad"] ["_law_script"] (ak pL) := ⟨rfl, rfl, rfl, by decide +kernel, rfl, by decide +kernel, by decide +kernel⟩
theorem Fl {n : Nat} (hn : n = 2 ∨ n = 3) : dO ("abcd" : Str).cps.toList ((n : Nat) : Int) = some (97 + n) := by
  rcases hn with rfl | rfl <;> decide +kernel
theorem nq {z y : Str} {c : Nat} (h : c ∈ y.cps.toList) : c ∈ (z ++ y).cps.toList := by
  rw [show (z ++ y).cps = z.cps ++ y.cps from rfl, Array.toList_append, List.mem_append]
  exact .inr h
noncomputable def jI (n : Nat) (z : Str) : List Dv := [.str "d", .str (z ++ ("A" : Str)), .aq, .int 0, .lst [.str "a"], .tup [.str "a"], .str (z ++ (" " : Str)), .str "-", .bl true, .str (Txt.mul "a" 2001), .str (z ++ (⟨#[97 + n]⟩ : Str))]
theorem II {n : Nat} {z : Str} (hn : n = 2 ∨ n = 3) (hz : z.length ≤ 12) : ∀ d ∈ jI n z, lM d ∧ cm n d = false := fun d hd => by
  have st : ∀ {y : Str} {c : Nat}, y.length ≤ 100 → c ∈ y.cps.toList → (∀ k < n, c ≠ 97 + k) → lM (.str y) ∧ cm n (.str y) = false := fun hy hc h => ⟨⟨rfl, fun z e => by cases e; omega⟩, Az hn hc h⟩
  have A1 : ∀ d : Dv, iy d = true → (∀ z, d ≠ .str z) → cm n d = false → lM d ∧ cm n d = false := fun d h1 h2 h3 => ⟨⟨h1, fun z e => absurd e (h2 z)⟩, h3⟩
  simp only [jI, List.mem_cons, List.not_mem_nil, or_false] at hd
  rcases hd with rfl | rfl | rfl | rfl | rfl | rfl | rfl | rfl | rfl | rfl | rfl
  · exact st (c := 100) (by decide) (by decide +kernel) (fun k hk => by omega)
  · exact st (c := 65) (by rw [iQ]; show z.length + 1 ≤ 100; omega) (nq (by decide +kernel)) (fun k hk => by omega)
  · exact A1 _ rfl (fun z e => nomatch e) rfl
  · exact A1 _ rfl (fun z e => nomatch e) rfl
  · exact A1 _ rfl (fun z e => nomatch e) rfl
  · exact A1 _ rfl (fun z e => nomatch e) rfl
  · exact st (c := 32) (by rw [iQ]; show z.length + 1 ≤ 100; omega) (nq (by decide +kernel)) (fun k hk => by omega)
  · exact st (c := 45) (by decide) (by decide +kernel) (fun k hk => by omega)
  · exact A1 _ rfl (fun z e => nomatch e) rfl
  · have lm : ((Txt.mul "a" 2001).length : Int) = 2001 := by
      have := PyProof.Rows.len_mul_k (x := "a") (n := 2001) 1 (by decide +kernel)
      rw [if_neg (by decide)] at this
      omega
    refine ⟨⟨rfl, fun z e => by cases e; omega⟩, ?_⟩
    simp only [cm, Bool.and_eq_false_iff, decide_eq_false_iff_not]
    left
    omega
  · exact st (c := 97 + n) (by rw [iQ]; show z.length + 1 ≤ 100; omega) (nq (by simp)) (fun k hk => by omega)
theorem uV {d : Dv} {t : Dt} {M : Mh} {Q : ZK} (h : cx (now M d) = some t) (hp : iE t ≤ 60) (q : Q (.bl false) M) : oq true d d M Q := by
  unfold oq
  rw [h]
  refine ⟨hp, ?_⟩
  rw [kR]
  exact q
theorem Fm {m : Nat} {ns : List Int} (h : j0 m ns) (h9 : m ≤ 9) : mY (eI ns) ∧ eV m (eI ns) = true := by
  have hl := h.len
  refine ⟨⟨ly, by rw [List.length_map]; omega⟩, ?_⟩
  have kW : ns.length ≠ 0 := fun z => h.ne (List.eq_nil_of_length_eq_zero z)
  simp only [eV, sH, dQ, Bool.and_eq_true, List.length_map]
  refine ⟨⟨by simp [kW], List.all_eq_true.mpr fun d hd => ?_⟩, decide_eq_true (AI h.str).symm⟩
  obtain ⟨p, hp, rfl⟩ := List.mem_map.mp hd
  exact rH (h.rng p hp)
theorem four {af : List (List Int)} {n : Nat} {d1 d2 : Dv} {M : Mh} (O : cA af n) (h1 : mY d1) (h2 : lM d2) {t : Str} (ht : ∀ i : Int, j7 i (eV af.length d1) (cm n d2) = t) {Q : List Dv → Mh → Prop} (q : Q [.str t, .str t, .str t, .str t] M) :
    zMap (zgName 0) zNoIf (zCall qA (fun _ _ => False) (zCons (zVar 0) (zCons (zVar 1) (zCons (zVar 2) (zCons (zVar 3) zNil))))) (eT 0 (Int.toNat 4)) [none, some (eN af), some d1, some d2] M Q := by
  refine nF (fun _ => .str t) (fun τ M' => (∃ x, τ = [x, some (eN af), some d1, some d2]) ∧ M' = M) ⟨⟨_, rfl⟩, rfl⟩ (fun d hd τ M' ⟨⟨x, e⟩, eM⟩ R hR => ?_) (fun τ M' ⟨⟨x, e⟩, eM⟩ => ?_)
  · subst e eM
    obtain ⟨i, hi⟩ := List.mem_iff_getElem?.mp hd
    obtain ⟨rfl, _⟩ := jV hi
    exact ⟨_, af, n, d1, d2, rfl, O, h1, h2, by rw [ht]; exact hR _ _ ⟨⟨_, rfl⟩, rfl⟩⟩
  · subst eM
    exact q
theorem IJ {f f1 f2 f3 f4 f5 f6 f7 : Addr} {fd bp fd2 iG rK LC LD LI : FuncData} (D : Df K mg "law" pL ["_law_script"] f fd)
    (fj : Df K mg "_law_bag" iU ["_law_script", "_law_at"] f1 bp) (yk : FnOk P w K mg base bz 1 f1 bp ["_law_script", "_law_at"] (bh P w K tb IE))
    (fk : Df K mg "_law_net" dX ["_law_bag_here", "_law_most"] f2 fd2) (yl : FnOk P w K mg base bz 3 f2 fd2 ["_law_bag_here", "_law_most"] (bh P w K tb Ea))
    (ai : Df K mg "_law_take" cI ["_law_bag_here", "_law_many"] f3 iG) (aV : FnOk P w K mg base bz 1 f3 iG ["_law_bag_here", "_law_many"] (bh P w K tb sI))
    (eF : Df K mg "_law_word" g6 ["_law_bag_here", "_law_net_here", "_law_most"] f4 rK) (vG : FnOk P w K mg base bz 2 f4 rK ["_law_bag_here", "_law_net_here", "_law_most"] (bh P w K tb AX))
    (dq : Df K mg "_law_places" eh ["_law_bag_here", "_law_many"] f5 LC) (sf : FnOk P w K mg base bz 2 f5 LC ["_law_bag_here", "_law_many"] (bh P w K tb uU))
    (du : Df K mg "_law_no_set" fS ["_law_bag_here", "_law_net_here", "_law_places_here"] f6 LD) (sg : FnOk P w K mg base bz 2 f6 LD ["_law_bag_here", "_law_net_here", "_law_places_here"] (bh P w K tb A0))
    (a7 : Df K mg "_law_answer" fR ["_law_what", "_law_net_here", "_law_places_here", "_law_word_here"] f7 LI) (fV : FnOk P w K mg base bz 13 f7 LI ["_law_what", "_law_net_here", "_law_places_here", "_law_word_here"] (bh P w K tb qA)) (bl : Bl mg) :
    FnOk P w K mg base bz 14 f fd ["_law_script"] (bh P w K tb HZ) := by
  refine ix D gH (fun ds M Q E hS => by obtain ⟨ns, e, _⟩ := hS; rw [e]; rfl) fun A outer s E Γ ds Q' E' hP hw hK ht hr hS => ?_
  obtain ⟨ns, e, hl, hM, q⟩ := hS
  refine ⟨_, (az (pA PassesOwn.never rfl (il rfl bl.range_ (aa (aF (HN rfl) rfl bl.max_ G1 (aa aU (aa (aF (HP rfl) rfl bl.min_ tI (aa aU (aa (aF (eL (K := K) rfl hK) rfl bl.len_ PySem.boot_len (aa (qv 0) ah)) ah))) ah))) ah)) (fun DX eP ew eK et => by have hP := hP.trans eP.symm; have hw := hw.trans ew.symm; have hK := hK.trans eK.symm; have ht := ht.trans et.symm; exact ⟨(cZ (i := 1) gH.nd rfl (Or.inl rfl)), (az (cw (i := 2) gH.nd rfl (Or.inl rfl) (aE yk (hr.mono (by decide)) rfl fj.mg fj.fn.kp fj.bd bt hP hw hK ht XR.none (aa (qv 0) (aa (qv 1) ah))))
    (az (cw (i := 3) gH.nd rfl (Or.inr rfl) (aE yl (hr.mono (by decide)) rfl fk.mg fk.fn.kp fk.bd bt hP hw hK ht XR.none (aa (qv 2) (aa aU ah))))
    (az (cw (i := 4) gH.nd rfl (Or.inr rfl) (aE sf (hr.mono (by decide)) rfl dq.mg dq.fn.kp dq.bd bt hP hw hK ht XR.none (aa (qv 2) (aa (aF (eL (K := K) rfl hK) rfl bl.len_ PySem.boot_len (aa (qv 3) ah)) ah))))
    (az (cw (i := 5) gH.nd rfl (Or.inr rfl) (aE vG (hr.mono (by decide)) rfl eF.mg eF.fn.kp eF.bd bt hP hw hK ht XR.none (aa (qv 2) (aa (qv 3) (aa aU ah)))))
    (az (cw (i := 6) gH.nd rfl (Or.inl rfl) (aE sg (hr.mono (by decide)) rfl du.mg du.fn.kp du.bd bt hP hw hK ht XR.none (aa (qv 2) (aa (qv 3) (aa (qv 4) ah)))))
    (az (cw (i := 7) gH.nd rfl (Or.inr rfl) (ik (aa bJ (aa (dC jT (qv 5) bJ) (aa t9 (aa aU (aa (ik (aa bJ ah)) (aa (c9 (aa bJ ah)) (aa (dC jT (qv 5) bJ) (aa bJ (aa e7 (aa (dC Am bJ aU) ah))))))))))))
    (az (cw (i := 7) gH.nd rfl (Or.inr rfl) (fP (iw (K := K) rfl) (dC (Al (K := K) rfl) (qv 7) (ik (aa (dC jT (qv 5) (fP (iw (K := K) rfl) bJ (aF (eL (K := K) rfl hK) rfl bl.len_ PySem.boot_len (aa (fP (iw (K := K) rfl) (qv 3) aU (fun _ _ => rfl)) ah)) (fun _ _ => rfl))) ah))) (aE aV (hr.mono (by decide)) rfl ai.mg ai.fn.kp ai.bd bt hP hw hK ht XR.none (aa (qv 2) (aa aU ah))) (fun _ _ => rfl)))
    (az (dD (QW.pt (nE (dn Cr (aE fV (hr.mono (by decide)) rfl a7.mg a7.fn.kp a7.bd bt hP hw hK ht XR.none (aa aU (aa (qv 3) (aa (qv 6) (aa (qv 5) ah))))) bJ (bU _)) (km (dn Cr (aE fV (hr.mono (by decide)) rfl a7.mg a7.fn.kp a7.bd bt hP hw hK ht XR.none (aa aU (aa (qv 3) (aa (qv 6) (aa (qv 7) ah))))) bJ (bU _)))))
      (ay (bj e7))
      qss_nil)
    (az (dD (dn (DR hr.units) (nY (N' := ["_law_what", "_law_net_here", "_law_places_here", "_law_bad"]) (tn := 1) (idx := [3, 4, 7]) rfl (show aO ["_law_script", "_law_k", "_law_bag_here", "_law_net_here", "_law_places_here", "_law_word_here", "_law_none", "_law_bad"] (ak pL) _ ["_law_what", "_law_net_here", "_law_places_here", "_law_bad"] 1 [3, 4, 7] from by decide +kernel) (il rfl bl.range_ (aa aU ah)) (fun _ _ _ _ _ => (cZ (i := 0) (show List.Nodup [("_law_what" : Str), ("_law_net_here" : Str), ("_law_places_here" : Str), ("_law_bad" : Str)] from by decide +kernel) rfl (Or.inl rfl))) (fun _ _ _ _ _ => e8) (fun _ _ _ _ _ => (aE fV (hr.mono (by decide)) rfl a7.mg a7.fn.kp a7.bd bt hP hw hK ht XR.none (aa (qv 0) (aa (qv 1) (aa (qv 2) (aa (qv 3) ah))))))) (dC DW (ik (aa bJ ah)) aU) (bU _))
      (ay (bj e7))
      qss_nil)
    (ay (dD (dn (DR hr.units) (nY (N' := ["_law_what", "_law_net_here", "_law_places_here", "_law_word_here"]) (tn := 1) (idx := [3, 4, 5]) rfl (show aO ["_law_script", "_law_k", "_law_bag_here", "_law_net_here", "_law_places_here", "_law_word_here", "_law_none", "_law_bad"] (ak pL) _ ["_law_what", "_law_net_here", "_law_places_here", "_law_word_here"] 1 [3, 4, 5] from by decide +kernel) (il rfl bl.range_ (aa aU ah)) (fun _ _ _ _ _ => (cZ (i := 0) (show List.Nodup [("_law_what" : Str), ("_law_net_here" : Str), ("_law_places_here" : Str), ("_law_word_here" : Str)] from by decide +kernel) rfl (Or.inl rfl))) (fun _ _ _ _ _ => e8) (fun _ _ _ _ _ => (aE fV (hr.mono (by decide)) rfl a7.mg a7.fn.kp a7.bd bt hP hw hK ht XR.none (aa (qv 0) (aa (qv 1) (aa (qv 2) (aa (qv 3) ah))))))) (dC DW (ik (aa bJ ah)) aU) (bU _))
      (ay (bj e7))
      qss_nil)))))))))))⟩))
    (ay (bj e7))), ?_⟩
  subst e
  have big : (10000 : Nat) < sizeLine := by decide
  dsimp! only []
  refine ⟨by split <;> split <;> omega, by split <;> split <;> omega, ?_⟩
  refine mM (fun k ρ M => (∃ x1 x2 x3 x4 x5 x6 x7, ρ = [some (.bO ns), x1, x2, x3, x4, x5, x6, x7])) ⟨_, _, _, _, _, _, _, rfl⟩ (fun k d ρ M N hd ⟨x1, x2, x3, x4, x5, x6, x7, e1⟩ hN => ?_) (fun ρ M _ => .inl (q _))
  subst e1
  obtain ⟨rfl, hk⟩ := jV hd
  have hk : k ≤ 8 := by split at hk <;> split at hk <;> omega
  dsimp! only []
  refine ⟨ns, _, rfl, hl, by omega, by omega, fun b hb => ?_⟩
  refine ⟨b, 9, rfl, updM_same, by omega, by omega, fun af n O _ => ?_⟩
  have h9 := O.nine
  have h1 := O.one
  have Eb := O.wid
  obtain ⟨r0, a0, al⟩ := qw O
  dsimp! only []
  refine ⟨b, af.length, rfl, updM_same, by omega, by omega, fun pl hS => ?_⟩
  refine ⟨b, af, n, 12, rfl, updM_same, O, by omega, fun z hz hW => ?_⟩
  refine ⟨b, af, n, pl, rfl, updM_same, O, hS, fun none sJ => ?_⟩
  dsimp! only [a0, al, eI, Fl Eb]
  have l1 : z.length + 1 ≤ sizeLine := by omega
  refine ⟨l1, by omega, by omega, l1, ?_, by omega, by decide, l1, by omega, by omega, b, 11, rfl, updM_same, by decide, by decide, fun e he => ?_⟩
  · exact yj (by decide) (by decide) (by decide)
  have IK : e < (jI n z).length := by show e < 11; omega
  have ea := cN (List.getElem?_eq_getElem IK)
  have eb := II Eb hz _ (List.getElem_mem IK)
  generalize (jI n z)[e] = bad at ea eb
  unfold jI at ea
  simp only [ea]
  obtain ⟨LJ, PH⟩ := eb
  obtain ⟨LK, LL⟩ := Fm hS h9
  have LN : lM (.str z) := ⟨rfl, fun y e => by cases e; omega⟩
  have PJ := lh Eb hW (show z.length ≤ 2000 by omega)
  refine ⟨0, af, n, none, .str z, rfl, O, sJ.1, LN, ?_⟩
  dsimp! only [j7, sJ.2, decide_true, Bool.not_true]
  refine ⟨0, af, n, none, bad, rfl, O, sJ.1, LJ, ?_⟩
  dsimp! only [j7, sJ.2, decide_true, Bool.not_true]
  refine ⟨by decide, by decide, by decide, four O LK LJ (t := "word") (fun i => by rw [LL, PH]; unfold j7; split <;> rfl) ?_⟩
  refine ⟨by decide, by decide, uV (t := .lst [.str "word", .str "word", .str "word", .str "word"]) rfl (by decide) ?_⟩
  refine ⟨by decide, by decide, by decide, four O LK LN (t := "told") (fun i => by rw [LL, PJ]; unfold j7; split <;> rfl) ?_⟩
  refine ⟨by decide, by decide, uV (t := .lst [.str "told", .str "told", .str "told", .str "told"]) rfl (by decide) ?_⟩
  exact hN _ _ ⟨_, _, _, _, _, _, _, rfl⟩
end
theorem all_mk {l : PySem.W.OpenLaw} {w : World} {K : PySem.W.Frag} {h : Heap} {mg : Str → Option Value} {fa : Addr} {tabs lts : List Addr} {C_RoadError C_NoNet C_NoPlace C_NoSign C_NoWord C_NoWhole C_NoSet C_TooMany : Addr} (X : K.In h) (G : h.Ns mainGlobals mg) (PK : mg "law" = some (.ref fa))
    (T : Paired (TabOf mg h) ["is_row", "is_net", "is_word", "is_set", "map_of", "comes_round"] tabs) (U : Paired (TabOf mg h) [] lts)
    (vH : PySem.W.nsIn K mainGlobals "RoadError" = some (some (.ref C_RoadError)))
    (Fn : PySem.W.nsIn K mainGlobals "NoNet" = some (some (.ref C_NoNet)))
    (A6 : PySem.W.nsIn K mainGlobals "NoPlace" = some (some (.ref C_NoPlace)))
    (CU : PySem.W.nsIn K mainGlobals "NoSign" = some (some (.ref C_NoSign)))
    (CV : PySem.W.nsIn K mainGlobals "NoWord" = some (some (.ref C_NoWord)))
    (A7 : PySem.W.nsIn K mainGlobals "NoWhole" = some (some (.ref C_NoWhole)))
    (Fo : PySem.W.nsIn K mainGlobals "NoSet" = some (some (.ref C_NoSet)))
    (A8 : PySem.W.nsIn K mainGlobals "TooMany" = some (some (.ref C_TooMany)))
    (eb : xJ K C_RoadError [C_NoNet, C_NoPlace, C_NoSign, C_NoWord, C_NoWhole, C_NoSet, C_TooMany] = true) (PL : [C_NoNet, C_NoPlace, C_NoSign, C_NoWord, C_NoWhole, C_NoSet, C_TooMany].Nodup)
    (yn : bI K "is_whole" dw)
    (oG : bI K "is_whole_below" b9)
    (CY : bI K "is_row" jC)
    (CZ : bI K "is_net" jD)
    (yo : bI K "need_net" fc)
    (yp : bI K "signs_of" iR)
    (uW : bI K "all_places" gD)
    (yq : bI K "is_place" iS)
    (A9 : bI K "is_word" ip)
    (vI : bI K "need_word" fL)
    (C1 : bI K "end_of" jE)
    (C2 : bI K "is_set" jF)
    (yr : bI K "need_set" iT)
    (Fp : bI K "image" ku)
    (C3 : bI K "map_of" gb)
    (IL : bI K "left" pK)
    (sh : bI K "comes_round" ef)
    (yt : bI K "_law_bag" iU)
    (vJ : bI K "_law_take" cI)
    (uX : bI K "_law_order" gE)
    (yu : bI K "_law_net" dX)
    (vK : bI K "_law_word" g6)
    (si : bI K "_law_places" eh)
    (sj : bI K "_law_answer" fR)
    (sm : bI K "_law_no_set" fS)
    (J0 : bI K "law" pL)
    (J4 : PySem.W.nsIn K mainGlobals "len" = some none)
    (Fq : PySem.W.nsIn K mainGlobals "range" = some none)
    (J5 : PySem.W.nsIn K mainGlobals "min" = some none)
    (J6 : PySem.W.nsIn K mainGlobals "max" = some none)
    (J7 : PySem.W.nsIn K mainGlobals "abs" = some none)
    (IM : PySem.W.nsIn K mainGlobals "list" = some none)
    (Fs : PySem.W.nsIn K mainGlobals "tuple" = some none)
    (J8 : PySem.W.nsIn K mainGlobals "int" = some none)
    (J9 : PySem.W.nsIn K mainGlobals "str" = some none)
    (IP : PySem.W.nsIn K mainGlobals "bool" = some none)
    (uY : PySem.W.nsIn K mainGlobals "isinstance" = some none)
    (Ka : PySem.W.nsIn K mainGlobals "all" = some none)
    (Kb : PySem.W.nsIn K mainGlobals "set" = some none)
    (C4 : PySem.W.nsIn K mainGlobals "sorted" = some none)
    (Kc : PySem.W.nsIn K mainGlobals "zip" = some none)
    (vL : PySem.W.nsIn K mainGlobals "enumerate" = some none)
    (Kd : PySem.W.nsIn K mainGlobals "sum" = some none)
    (yw : PySem.W.nsIn K mainGlobals "reversed" = some none)
    (C5 : PySem.W.nsIn K mainGlobals "divmod" = some none)
    (Ke : PySem.W.nsIn K mainGlobals "any" = some none)
    (uZ : PySem.W.nsIn K mainGlobals "ValueError" = some none)
    (qD : ∃ tk, PySem.W.nsIn K mainGlobals "SIGNS" = some (some (.str "abc" tk)))
    (iA : ∃ tk, PySem.W.nsIn K mainGlobals "MOST_PLACES" = some (some (.int 9 tk)))
    (dZ : ∃ tk, PySem.W.nsIn K mainGlobals "MOST_SIGNS_OF_WORD" = some (some (.int 2000 tk)))
    : ∃ fd : FuncData, (∀ (s : Shared) (v : Value), BindsTo s fd ⟨[v], []⟩ [("_law_script", v)]) ∧ ∀ base : Heap, K.In base → base.Ns mainGlobals mg → (∃ bm ob, BMod base mainGlobals mg bm ob) → (∀ c p, PySem.W.CodeHd h c p → PySem.W.CodeHd base c p) → FnOk l.prog w K mg base bz 14 fa fd ["_law_script"] (spLaw K ⟨tabs, lts.zip []⟩) := by
  obtain ⟨Kf, Ja, bD⟩ := yn.df X G ["thing"] fun _ _ _ _ _ _ us hl => match us, hl with | [_], _ => rfl
  obtain ⟨C6, Bf, aD⟩ := oG.df X G ["thing", "many"] fun _ _ _ _ _ _ us hl => match us, hl with | [_, _], _ => rfl
  obtain ⟨Nj, LO, gf⟩ := CY.df X G ["thing", "many", "width"] fun _ _ _ _ _ _ us hl => match us, hl with | [_, _, _], _ => rfl
  obtain ⟨Nk, LQ, gh⟩ := CZ.df X G ["thing"] fun _ _ _ _ _ _ us hl => match us, hl with | [_], _ => rfl
  obtain ⟨Kg, Jb, bu⟩ := yo.df X G ["thing"] fun _ _ _ _ _ _ us hl => match us, hl with | [_], _ => rfl
  obtain ⟨Kh, Jc, fe⟩ := yp.df X G ["net"] fun _ _ _ _ _ _ us hl => match us, hl with | [_], _ => rfl
  obtain ⟨IQ, FA, dJ⟩ := uW.df X G ["net"] fun _ _ _ _ _ _ us hl => match us, hl with | [_], _ => rfl
  obtain ⟨Ki, Jd, fg⟩ := yq.df X G ["net", "thing"] fun _ _ _ _ _ _ us hl => match us, hl with | [_, _], _ => rfl
  obtain ⟨LR, Kj, eU⟩ := A9.df X G ["net", "thing"] fun _ _ _ _ _ _ us hl => match us, hl with | [_, _], _ => rfl
  obtain ⟨Je, IU, bY⟩ := vI.df X G ["net", "thing"] fun _ _ _ _ _ _ us hl => match us, hl with | [_, _], _ => rfl
  obtain ⟨Nm, LU, de⟩ := C1.df X G ["net", "place", "word"] fun _ _ _ _ _ _ us hl => match us, hl with | [_, _, _], _ => rfl
  obtain ⟨Np, LV, gi⟩ := C2.df X G ["net", "thing"] fun _ _ _ _ _ _ us hl => match us, hl with | [_, _], _ => rfl
  obtain ⟨Kk, Jf, fh⟩ := yr.df X G ["net", "thing"] fun _ _ _ _ _ _ us hl => match us, hl with | [_, _], _ => rfl
  obtain ⟨Nw, Nq, iX⟩ := Fp.df X G ["net", "places", "word"] fun _ _ _ _ _ _ us hl => match us, hl with | [_, _, _], _ => rfl
  obtain ⟨Nr, LW, bN⟩ := C3.df X G ["net", "word"] fun _ _ _ _ _ _ us hl => match us, hl with | [_, _], _ => rfl
  obtain ⟨PN, Nx, kz⟩ := IL.df X G ["net", "word"] fun _ _ _ _ _ _ us hl => match us, hl with | [_, _], _ => rfl
  obtain ⟨FC, Ft, cQ⟩ := sh.df X G ["net", "word"] fun _ _ _ _ _ _ us hl => match us, hl with | [_, _], _ => rfl
  obtain ⟨Km, Jg, fj⟩ := yt.df X G ["_law_script", "_law_at"] fun _ _ _ _ _ _ us hl => match us, hl with | [_, _], _ => rfl
  obtain ⟨Jh, IV, ai⟩ := vJ.df X G ["_law_bag_here", "_law_many"] fun _ _ _ _ _ _ us hl => match us, hl with | [_, _], _ => rfl
  obtain ⟨IW, FD, dN⟩ := uX.df X G ["_law_bag_here", "_law_many"] fun _ _ _ _ _ _ us hl => match us, hl with | [_, _], _ => rfl
  obtain ⟨Kn, Ji, fk⟩ := yu.df X G ["_law_bag_here", "_law_most"] fun _ _ _ _ _ _ us hl => match us, hl with | [_, _], _ => rfl
  obtain ⟨Jj, IX, eF⟩ := vK.df X G ["_law_bag_here", "_law_net_here", "_law_most"] fun _ _ _ _ _ _ us hl => match us, hl with | [_, _, _], _ => rfl
  obtain ⟨FE, Fu, dq⟩ := si.df X G ["_law_bag_here", "_law_many"] fun _ _ _ _ _ _ us hl => match us, hl with | [_, _], _ => rfl
  obtain ⟨FG, Fv, a7⟩ := sj.df X G ["_law_what", "_law_net_here", "_law_places_here", "_law_word_here"] fun _ _ _ _ _ _ us hl => match us, hl with | [_, _, _, _], _ => rfl
  obtain ⟨FH, Fw, du⟩ := sm.df X G ["_law_bag_here", "_law_net_here", "_law_places_here"] fun _ _ _ _ _ _ us hl => match us, hl with | [_, _, _], _ => rfl
  obtain ⟨PX, IY, yx⟩ := J0.df X G ["_law_script"] fun _ _ _ _ _ _ us hl => match us, hl with | [_], _ => rfl
  have j8 := PySem.W.mg_of X G vH
  have iW := PySem.W.mg_of X G Fn
  have m6 := PySem.W.mg_of X G A6
  have oE := PySem.W.mg_of X G CU
  have gU := PySem.W.mg_of X G CV
  have m7 := PySem.W.mg_of X G A7
  have gX := PySem.W.mg_of X G Fo
  have m8 := PySem.W.mg_of X G A8
  have X_ := EG eb
  have iV : C_NoNet ∈ [C_NoNet, C_NoPlace, C_NoSign, C_NoWord, C_NoWhole, C_NoSet, C_TooMany] := by simp
  have mZ : C_NoPlace ∈ [C_NoNet, C_NoPlace, C_NoSign, C_NoWord, C_NoWhole, C_NoSet, C_TooMany] := by simp
  have oC : C_NoSign ∈ [C_NoNet, C_NoPlace, C_NoSign, C_NoWord, C_NoWhole, C_NoSet, C_TooMany] := by simp
  have bR : C_NoWord ∈ [C_NoNet, C_NoPlace, C_NoSign, C_NoWord, C_NoWhole, C_NoSet, C_TooMany] := by simp
  have m4 : C_NoWhole ∈ [C_NoNet, C_NoPlace, C_NoSign, C_NoWord, C_NoWhole, C_NoSet, C_TooMany] := by simp
  have c0 : C_NoSet ∈ [C_NoNet, C_NoPlace, C_NoSign, C_NoWord, C_NoWhole, C_NoSet, C_TooMany] := by simp
  have m5 : C_TooMany ∈ [C_NoNet, C_NoPlace, C_NoSign, C_NoWord, C_NoWhole, C_NoSet, C_TooMany] := by simp
  have e := PK.symm.trans yx.mg
  cases e
  have bl : Bl mg := ⟨PySem.W.mg_none_of X G J4, PySem.W.mg_none_of X G Fq, PySem.W.mg_none_of X G J5, PySem.W.mg_none_of X G J6, PySem.W.mg_none_of X G J7, PySem.W.mg_none_of X G IM, PySem.W.mg_none_of X G Fs, PySem.W.mg_none_of X G J8, PySem.W.mg_none_of X G J9, PySem.W.mg_none_of X G IP, PySem.W.mg_none_of X G uY, PySem.W.mg_none_of X G Ka, PySem.W.mg_none_of X G Kb, PySem.W.mg_none_of X G C4, PySem.W.mg_none_of X G Kc, PySem.W.mg_none_of X G vL, PySem.W.mg_none_of X G Kd, PySem.W.mg_none_of X G yw, PySem.W.mg_none_of X G C5, PySem.W.mg_none_of X G Ke, PySem.W.mg_none_of X G uZ⟩
  obtain ⟨Nt, qD⟩ := qD
  have gT := PySem.W.mg_of X G qD
  obtain ⟨Fx, iA⟩ := iA
  have gS := PySem.W.mg_of X G iA
  obtain ⟨wM, dZ⟩ := dZ
  have dH := PySem.W.mg_of X G dZ
  obtain ⟨aL, LX, rfl, C7, T⟩ := eu T
  obtain ⟨aX, LY, rfl, C8, T⟩ := eu T
  obtain ⟨aK, Ko, rfl, Ba, T⟩ := eu T
  obtain ⟨aZ, LZ, rfl, C9, T⟩ := eu T
  obtain ⟨aY, L6, rfl, Dc, T⟩ := eu T
  obtain ⟨ax, Fy, rfl, so, T⟩ := eu T
  cases T
  cases U
  refine ⟨IY, fun s v => yx.bind1 s v (by intros; rfl), fun base _ _ dh tr => ?_⟩
  obtain ⟨la, gR⟩ := ke gf X C7 tr
  obtain ⟨uG, lb⟩ := ke gh X C8 tr
  obtain ⟨rJ, jZ⟩ := ke eU X Ba tr
  obtain ⟨uM, lu⟩ := ke gi X C9 tr
  obtain ⟨uK, lr⟩ := ke bN X Dc tr
  obtain ⟨lN, fT⟩ := ke cQ X so tr
  have Bb : aL ∈ (⟨[aL, aX, aK, aZ, aY, ax], []⟩ : cU) := by show _ ∈ [aL, aX, aK, aZ, aY, ax]; simp
  have Bc : aX ∈ (⟨[aL, aX, aK, aZ, aY, ax], []⟩ : cU) := by show _ ∈ [aL, aX, aK, aZ, aY, ax]; simp
  have yy : aK ∈ (⟨[aL, aX, aK, aZ, aY, ax], []⟩ : cU) := by show _ ∈ [aL, aX, aK, aZ, aY, ax]; simp
  have Bd : aZ ∈ (⟨[aL, aX, aK, aZ, aY, ax], []⟩ : cU) := by show _ ∈ [aL, aX, aK, aZ, aY, ax]; simp
  have Be : aY ∈ (⟨[aL, aX, aK, aZ, aY, ax], []⟩ : cU) := by show _ ∈ [aL, aX, aK, aZ, aY, ax]; simp
  have qE : ax ∈ (⟨[aL, aX, aK, aZ, aY, ax], []⟩ : cU) := by show _ ∈ [aL, aX, aK, aZ, aY, ax]; simp
  have oz := Au (P := l.prog) (w := w) (tb := (⟨[aL, aX, aK, aZ, aY, ax], []⟩ : cU)) gh lb Bc gf gR Bb dh aD bD bl gS
  have cR := vt bu gh oz X_ iV iW
  have ll := vA fe bu cR bl gT
  have mW := xY eU jZ yy dh fe ll bl dH
  have eE := uI bY eU mW X_ bR gU
  have gW := AD (P := l.prog) (w := w) (base := base) (tb := (⟨[aL, aX, aK, aZ, aY, ax], []⟩ : cU)) de gT
  have jH := rX (P := l.prog) (w := w) (base := base) (tb := (⟨[aL, aX, aK, aZ, aY, ax], []⟩ : cU)) dJ bl
  have dY := AF bN lr Be dh bu cR bY eE de gW bl
  have iz := qy cQ fT qE dh bN dY dJ jH bl
  have oB := AQ (P := l.prog) (w := w) (base := base) (tb := (⟨[aL, aX, aK, aZ, aY, ax], []⟩ : cU)) gi lu Bd dh fg aD bD bl
  have lx := vD fh gi oB X_ c0 gX
  have qB := CO iX bu cR bY eE fh lx de gW bl
  have uO := Fj kz bN dY bl
  have u0 := IG (tb := (⟨[aL, aX, aK, aZ, aY, ax], []⟩ : cU)) (g7 (P := l.prog) (w := w) (base := base) ai)
  have Kp := JZ (tb := (⟨[aL, aX, aK, aZ, aY, ax], []⟩ : cU)) (yc (P := l.prog) (w := w) (base := base) fk ai dN bl)
  have Kq := JY (tb := (⟨[aL, aX, aK, aZ, aY, ax], []⟩ : cU)) (yb (P := l.prog) (w := w) (base := base) fj bl)
  have IZ := vF eF ai u0 bl
  have Dd := CT (tb := (⟨[aL, aX, aK, aZ, aY, ax], []⟩ : cU)) (sd (P := l.prog) (w := w) (base := base) dq ai bl)
  have De := se du ai u0 bl
  have Dg := rY a7 iX qB kz uO bN dY cQ iz X_ iV mZ oC bR m4 c0 m5 (by simpa using PL) j8 iW m6 oE gU m7 gX m8 bl
  exact Ia (IJ yx fj Kq fk Kp ai u0 eF IZ dq Dd du De a7 Dg bl)
theorem walk {l : PySem.W.OpenLaw} {q : Program} {loose : List Str} {XP : (Str → Option Value) → Heap → Prop} {YP : World → Heap → Prop} {d : DefRec} {K : Params → PySem.W.Frag} (hn : l.most = some 63) (yW : d.params.defaults = [])
    (Ag : ∀ w : World, PySem.W.kb_classed (K w.params) = true) (DV : ∀ y ∈ ((["is_row", "is_net", "is_word", "is_set", "map_of", "comes_round"] : List Str) ++ ([] : List Str)), ∃ r ∈ recsOf q, r.name = y) (nS : ∀ w : World, qp (K w.params) ["is_row", "is_net", "is_word", "is_set", "map_of", "comes_round"] [] = true) (hY : ∀ (w : World) (h : Heap), YP w h → (K w.params).In h)
    (F : ∀ (w : World) (mg : Str → Option Value) (fa : Addr) (h : Heap) (tabs lts : List Addr), (K w.params).In h → h.Ns mainGlobals mg → mg d.name = some (.ref fa) →
      Paired (TabOf mg h) ["is_row", "is_net", "is_word", "is_set", "map_of", "comes_round"] tabs → Paired (TabOf mg h) [] lts →
      ∃ fd : FuncData, (∀ (s : Shared) (u : Value), BindsTo s fd ⟨[u], []⟩ [("_law_script", u)]) ∧
        ∀ base : Heap, (K w.params).In base → base.Ns mainGlobals mg → (∃ bm ob, BMod base mainGlobals mg bm ob) → (∀ c p, PySem.W.CodeHd h c p → PySem.W.CodeHd base c p) → FnOk l.prog w (K w.params) mg base bz 14 fa fd ["_law_script"] (spLaw (K w.params) ⟨tabs, lts.zip []⟩)) :
    PySem.W.WalkO q loose XP YP l.row.toRowW d [] (fun f vs => PySem.call f vs) :=
  L2.CB (n := 63) (k := 14) (x := "_law_script") (CX := bz) (sp := fun K tabs lts => spLaw K ⟨tabs, lts.zip []⟩) hn (by decide) yW ⟨rfl, by decide, by decide⟩ Ag DV nS hY F (fun _ _ _ _ a ns hl hn hT hL hS => CC hl hn hT hL hS) fun _ _ _ _ z => z
end My
open PySem PySem.W PyProof.Rows L2
set_option maxRecDepth 100000 in
set_option maxHeartbeats 0 in
theorem PySem.Challenge.cw_roadcall_k21_no_sets_and_no_words_holds : PySem.Challenge.rw_roadcall_k21_no_sets_and_no_words.Holds := by
  w_on; o_law
  refine My.Ec (q := My.kq) (loose := My.kL) (H := My.kH) My.left (by rfl) (by rfl) (by rfl) (by rfl) (by first | assumption | decide +kernel) (by decide +kernel) ⟨rfl, rfl, rfl, rfl, rfl, by decide +kernel⟩ ?hw ?hc
  (case hw => w_witness2)
  refine My.walk (l := PySem.Challenge.rw_roadcall_k21_no_sets_and_no_words) rfl rfl (fun w => by kernel_rfl) (recs_of (by decide +kernel)) (fun w => by kernel_rfl) (fun w h Y => Y) ?F
  intro w mg fa h tabs lts KX G yX T U
  exact My.all_mk (C_RoadError := 24) (C_NoNet := 37) (C_NoPlace := 49) (C_NoSign := 61) (C_NoWord := 73) (C_NoWhole := 85) (C_NoSet := 97) (C_TooMany := 109) KX G yX T U
    (by kernel_rfl)
    (by kernel_rfl)
    (by kernel_rfl)
    (by kernel_rfl)
    (by kernel_rfl)
    (by kernel_rfl)
    (by kernel_rfl)
    (by kernel_rfl)
    (by kernel_rfl)
    (by decide)
    (L2.aQ (f := 118) (oc := .type "function") (od := none) (sl := #[]) (kV := .none) (dc := .none) (pm := My.vS "roadcall.whole" 319) (an := none) (cd := .ref 117) (ct := .none) (by kernel_rfl) (by kernel_rfl) (by kernel_rfl) (by kernel_rfl))
    (L2.aQ (f := 125) (oc := .type "function") (od := none) (sl := #[]) (kV := .none) (dc := .none) (pm := My.vS "roadcall.whole" 319) (an := none) (cd := .ref 124) (ct := .none) (by kernel_rfl) (by kernel_rfl) (by kernel_rfl) (by kernel_rfl))
    (L2.aQ (f := 132) (oc := .type "function") (od := none) (sl := #[]) (kV := .none) (dc := .none) (pm := My.vS "roadcall.nets" 336) (an := none) (cd := .ref 131) (ct := .none) (by kernel_rfl) (by kernel_rfl) (by kernel_rfl) (by kernel_rfl))
    (L2.aQ (f := 139) (oc := .type "function") (od := none) (sl := #[]) (kV := .none) (dc := .none) (pm := My.vS "roadcall.nets" 336) (an := none) (cd := .ref 138) (ct := .none) (by kernel_rfl) (by kernel_rfl) (by kernel_rfl) (by kernel_rfl))
    (L2.aQ (f := 146) (oc := .type "function") (od := none) (sl := #[]) (kV := .none) (dc := .none) (pm := My.vS "roadcall.nets" 336) (an := none) (cd := .ref 145) (ct := .none) (by kernel_rfl) (by kernel_rfl) (by kernel_rfl) (by kernel_rfl))
    (L2.aQ (f := 153) (oc := .type "function") (od := none) (sl := #[]) (kV := .none) (dc := .none) (pm := My.vS "roadcall.nets" 336) (an := none) (cd := .ref 152) (ct := .none) (by kernel_rfl) (by kernel_rfl) (by kernel_rfl) (by kernel_rfl))
    (L2.aQ (f := 160) (oc := .type "function") (od := none) (sl := #[]) (kV := .none) (dc := .none) (pm := My.vS "roadcall.nets" 336) (an := none) (cd := .ref 159) (ct := .none) (by kernel_rfl) (by kernel_rfl) (by kernel_rfl) (by kernel_rfl))
    (L2.aQ (f := 167) (oc := .type "function") (od := none) (sl := #[]) (kV := .none) (dc := .none) (pm := My.vS "roadcall.nets" 336) (an := none) (cd := .ref 166) (ct := .none) (by kernel_rfl) (by kernel_rfl) (by kernel_rfl) (by kernel_rfl))
    (L2.aQ (f := 174) (oc := .type "function") (od := none) (sl := #[]) (kV := .none) (dc := .none) (pm := My.vS "roadcall.nets" 336) (an := none) (cd := .ref 173) (ct := .none) (by kernel_rfl) (by kernel_rfl) (by kernel_rfl) (by kernel_rfl))
    (L2.aQ (f := 181) (oc := .type "function") (od := none) (sl := #[]) (kV := .none) (dc := .none) (pm := My.vS "roadcall.nets" 336) (an := none) (cd := .ref 180) (ct := .none) (by kernel_rfl) (by kernel_rfl) (by kernel_rfl) (by kernel_rfl))
    (L2.aQ (f := 188) (oc := .type "function") (od := none) (sl := #[]) (kV := .none) (dc := .none) (pm := My.vS "roadcall.ways" 409) (an := none) (cd := .ref 187) (ct := .none) (by kernel_rfl) (by kernel_rfl) (by kernel_rfl) (by kernel_rfl))
    (L2.aQ (f := 195) (oc := .type "function") (od := none) (sl := #[]) (kV := .none) (dc := .none) (pm := My.vS "roadcall.words" 421) (an := none) (cd := .ref 194) (ct := .none) (by kernel_rfl) (by kernel_rfl) (by kernel_rfl) (by kernel_rfl))
    (L2.aQ (f := 202) (oc := .type "function") (od := none) (sl := #[]) (kV := .none) (dc := .none) (pm := My.vS "roadcall.words" 421) (an := none) (cd := .ref 201) (ct := .none) (by kernel_rfl) (by kernel_rfl) (by kernel_rfl) (by kernel_rfl))
    (L2.aQ (f := 207) (oc := .type "function") (od := none) (sl := #[]) (kV := .none) (dc := .none) (pm := My.vS "roadcall.words" 421) (an := none) (cd := .ref 206) (ct := .none) (by kernel_rfl) (by kernel_rfl) (by kernel_rfl) (by kernel_rfl))
    (L2.aQ (f := 214) (oc := .type "function") (od := none) (sl := #[]) (kV := .none) (dc := .none) (pm := My.vS "roadcall.words" 421) (an := none) (cd := .ref 213) (ct := .none) (by kernel_rfl) (by kernel_rfl) (by kernel_rfl) (by kernel_rfl))
    (L2.aQ (f := 221) (oc := .type "function") (od := none) (sl := #[]) (kV := .none) (dc := .none) (pm := My.vS "roadcall.words" 421) (an := none) (cd := .ref 220) (ct := .none) (by kernel_rfl) (by kernel_rfl) (by kernel_rfl) (by kernel_rfl))
    (L2.aQ (f := 228) (oc := .type "function") (od := none) (sl := #[]) (kV := .none) (dc := .none) (pm := My.vS "roadcall.words" 421) (an := none) (cd := .ref 227) (ct := .none) (by kernel_rfl) (by kernel_rfl) (by kernel_rfl) (by kernel_rfl))
    (L2.aQ (f := 235) (oc := .type "function") (od := none) (sl := #[]) (kV := .none) (dc := .none) (pm := My.vS "law_roadcall_k21_no_sets_and_no_words" 475) (an := none) (cd := .ref 234) (ct := .none) (by kernel_rfl) (by kernel_rfl) (by kernel_rfl) (by kernel_rfl))
    (L2.aQ (f := 242) (oc := .type "function") (od := none) (sl := #[]) (kV := .none) (dc := .none) (pm := My.vS "law_roadcall_k21_no_sets_and_no_words" 475) (an := none) (cd := .ref 241) (ct := .none) (by kernel_rfl) (by kernel_rfl) (by kernel_rfl) (by kernel_rfl))
    (L2.aQ (f := 249) (oc := .type "function") (od := none) (sl := #[]) (kV := .none) (dc := .none) (pm := My.vS "law_roadcall_k21_no_sets_and_no_words" 475) (an := none) (cd := .ref 248) (ct := .none) (by kernel_rfl) (by kernel_rfl) (by kernel_rfl) (by kernel_rfl))
    (L2.aQ (f := 254) (oc := .type "function") (od := none) (sl := #[]) (kV := .none) (dc := .none) (pm := My.vS "law_roadcall_k21_no_sets_and_no_words" 475) (an := none) (cd := .ref 253) (ct := .none) (by kernel_rfl) (by kernel_rfl) (by kernel_rfl) (by kernel_rfl))
    (L2.aQ (f := 261) (oc := .type "function") (od := none) (sl := #[]) (kV := .none) (dc := .none) (pm := My.vS "law_roadcall_k21_no_sets_and_no_words" 475) (an := none) (cd := .ref 260) (ct := .none) (by kernel_rfl) (by kernel_rfl) (by kernel_rfl) (by kernel_rfl))
    (L2.aQ (f := 266) (oc := .type "function") (od := none) (sl := #[]) (kV := .none) (dc := .none) (pm := My.vS "law_roadcall_k21_no_sets_and_no_words" 475) (an := none) (cd := .ref 265) (ct := .none) (by kernel_rfl) (by kernel_rfl) (by kernel_rfl) (by kernel_rfl))
    (L2.aQ (f := 273) (oc := .type "function") (od := none) (sl := #[]) (kV := .none) (dc := .none) (pm := My.vS "law_roadcall_k21_no_sets_and_no_words" 475) (an := none) (cd := .ref 272) (ct := .none) (by kernel_rfl) (by kernel_rfl) (by kernel_rfl) (by kernel_rfl))
    (L2.aQ (f := 280) (oc := .type "function") (od := none) (sl := #[]) (kV := .none) (dc := .none) (pm := My.vS "law_roadcall_k21_no_sets_and_no_words" 475) (an := none) (cd := .ref 279) (ct := .none) (by kernel_rfl) (by kernel_rfl) (by kernel_rfl) (by kernel_rfl))
    (L2.aQ (f := 285) (oc := .type "function") (od := none) (sl := #[]) (kV := .none) (dc := .none) (pm := My.vS "law_roadcall_k21_no_sets_and_no_words" 475) (an := none) (cd := .ref 284) (ct := .none) (by kernel_rfl) (by kernel_rfl) (by kernel_rfl) (by kernel_rfl))
    (by kernel_rfl)
    (by kernel_rfl)
    (by kernel_rfl)
    (by kernel_rfl)
    (by kernel_rfl)
    (by kernel_rfl)
    (by kernel_rfl)
    (by kernel_rfl)
    (by kernel_rfl)
    (by kernel_rfl)
    (by kernel_rfl)
    (by kernel_rfl)
    (by kernel_rfl)
    (by kernel_rfl)
    (by kernel_rfl)
    (by kernel_rfl)
    (by kernel_rfl)
    (by kernel_rfl)
    (by kernel_rfl)
    (by kernel_rfl)
    (by kernel_rfl)
    ⟨338, by kernel_rfl⟩
    ⟨340, by kernel_rfl⟩
    ⟨342, by kernel_rfl⟩
