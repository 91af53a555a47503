import PyProof.Rows.All
import Wide.All
import OpenK.AllK
import Wide.FinOn
import Lean
import PySem.Challenge.RW_roadcall_k28_stable_pairs
import PyProof.EqAt
import PyProof.EqKinds
import PyProof.TupleCall
import PyProof.NeKinds
import PyProof.EnumMake
import PyProof.EnumFor
import PyProof.ZipIter
import PyProof.Rows.ZipGen
import KE.KLam
import PyProof.DictItems
import KE.KTurnsDict
import KE.KPairComp
import KE.KDictList
set_option linter.all false
set_option Elab.async false
set_option maxRecDepth 100000
namespace My
open PySem PyProof.Rows
noncomputable def kA (s : Stmt) : Arguments := match s with
  | .FunctionDef _ a _ _ _ _ _ _ _ _ => a
  | _ => { posonlyargs := [], args := [], vararg := none, kwonlyargs := [], kw_defaults := [], kwarg := none, defaults := [] }
noncomputable def kB (s : Stmt) : List Stmt := match s with
  | .FunctionDef _ _ b _ _ _ _ _ _ _ => b
  | _ => []
noncomputable def kS (s : Stmt) : Scope := match s with
  | .FunctionDef _ _ _ _ _ _ sc _ _ _ => sc
  | _ => { kind := .function, names := [], isGenerator := false, isCoroutine := false }
noncomputable def vS (x : String) (t : Nat) : Value := .str (Str.ofString x) t
noncomputable def kE (P : Params) (x : String) (t : Nat) (v : Value) : DictEntry := ⟨PyData.keyHash P (Str.ofString x), vS x t, v⟩
noncomputable def kF (i : Nat) (x : String) (d m : Value) (c : Nat) : Obj := let st := PySem.Challenge.pw_roadcall_k28_stable_pairs.main.body.getD i (.Pass ⟨0, 0, 0, 0⟩); ⟨.type "function", none, .func (PySem.W.fnOf (Str.ofString x) (Str.ofString x) (kA st) (kB st) (kS st) d .none .none m none (.ref c) .none), #[]⟩
noncomputable def kC (x : String) (t : Nat) (l n f : Int) (a : Nat) (b : Bool) (m : Int) (p : Nat) (u z : Value) (q : Nat) (e : Int) (t2 : Nat) : Obj := ⟨.type "code", none, .fields #[vS x t, vS x (t + 1), vS "/claim/cut.py" (t + 2), .int l 0, .int n 0, .int 0 0, .int 0 0, .int f 0, .ref a, .bool b, .int m 0, .ref p, .none, u, z, .ref q, .int e 0, .int l 0, vS "/claim/cut.py" t2], #[]⟩
noncomputable def kK (P : Params) : PySem.W.Frag := [(2, ⟨.none, none, .dict [].toArray 0, #[]⟩),
  (3, ⟨.type "dict", none, .dict [kE P "__name__" 165 (vS "law_roadcall_k28_stable_pairs" 318), kE P "__doc__" 166 .none, kE P "__package__" 167 .none, kE P "__loader__" 168 (.builtin "__main__.__loader__#opaque"), kE P "__spec__" 169 .none, kE P "__annotations__" 170 (.ref 6), kE P "__builtins__" 171 (.ref 4), kE P "__file__" 173 (vS "/claim/cut.py" 172), kE P "__cached__" 174 .none, kE P "RoadError" 206 (.ref 24), kE P "NoNet" 222 (.ref 37), kE P "is_whole" 231 (.ref 46), kE P "is_whole_below" 239 (.ref 53), kE P "MOST_PLACES" 243 (.int 9 242), kE P "is_row" 253 (.ref 60), kE P "is_net" 262 (.ref 67), kE P "need_net" 269 (.ref 74), kE P "all_pairs" 277 (.ref 79), kE P "in_order" 285 (.ref 86), kE P "coming_pairs" 297 (.ref 93), kE P "led_to_some" 303 (.ref 98), kE P "never_called" 309 (.ref 103), kE P "stable_pairs" 317 (.ref 108), kE P "_law_bag" 330 (.ref 115), kE P "_law_take" 341 (.ref 122), kE P "_law_order" 347 (.ref 127), kE P "_law_net" 353 (.ref 132), kE P "_law_like" 359 (.ref 137), kE P "_law_pairs" 365 (.ref 142), kE P "_law_goals" 371 (.ref 147), kE P "_law_led" 382 (.ref 154), kE P "_law_is_called" 388 (.ref 159), kE P "_law_stable" 394 (.ref 164), kE P "law" 405 (.ref 171)].toArray 34, #[]⟩),
  (23, ⟨.type "dict", none, .dict [kE P "__module__" 196 (vS "roadcall.errors" 187), kE P "__firstlineno__" 200 (.int 2 199), kE P "__static_attributes__" 201 (.ref 22), kE P "__weakref__" 203 (.ref 25), kE P "__doc__" 204 .none].toArray 3, #[]⟩),
  (24, ⟨.type "type", none, .cls { name := Str.ofString "RoadError", bases := [.type "ValueError"], mro := [.ref 24, .type "ValueError", .type "Exception", .type "BaseException", .type "object"], ns := 23, qualname := Str.ofString "RoadError", subclasses := [.ref 37] }, #[some (.ref 15), none, some (vS "RoadError" 189), some (vS "RoadError" 197), some (.builtin "ValueError.__new__"), some (.bool true)]⟩),
  (36, ⟨.type "dict", none, .dict [kE P "__module__" 214 (vS "roadcall.errors" 187), kE P "__firstlineno__" 218 (.int 4 217), kE P "__static_attributes__" 219 (.ref 35), kE P "__doc__" 220 .none].toArray 2, #[]⟩),
  (37, ⟨.type "type", none, .cls { name := Str.ofString "NoNet", bases := [.ref 24], mro := [.ref 37, .ref 24, .type "ValueError", .type "Exception", .type "BaseException", .type "object"], ns := 36, qualname := Str.ofString "NoNet", subclasses := [] }, #[some (.ref 28), none, some (vS "NoNet" 207), some (vS "NoNet" 215), some (.builtin "ValueError.__new__"), some (.bool true)]⟩),
  (45, kC "is_whole" 225 7 1 3 40 true 181 41 (.ref 42) (.ref 43) 44 229 230),
  (46, kF 4 "is_whole" .none (vS "roadcall.whole" 223) 45),
  (52, kC "is_whole_below" 232 9 2 3 47 true 181 48 (.ref 49) (.ref 50) 51 237 238),
  (53, kF 5 "is_whole_below" .none (vS "roadcall.whole" 223) 52),
  (59, kC "is_row" 244 13 3 3 54 true 181 55 (.ref 56) (.ref 57) 58 251 252),
  (60, kF 8 "is_row" .none (vS "roadcall.nets" 240) 59),
  (66, kC "is_net" 254 17 1 3 61 true 181 62 (.ref 63) (.ref 64) 65 260 261),
  (67, kF 9 "is_net" .none (vS "roadcall.nets" 240) 66),
  (73, kC "need_net" 263 25 1 3 68 true 181 69 (.ref 70) (.ref 71) 72 267 268),
  (74, kF 10 "need_net" .none (vS "roadcall.nets" 240) 73),
  (78, kC "all_pairs" 272 29 1 3 75 true 181 76 .none .none 77 275 276),
  (79, kF 12 "all_pairs" .none (vS "roadcall.pairs" 270) 78),
  (85, kC "in_order" 278 32 2 3 80 true 181 81 (.ref 82) (.ref 83) 84 283 284),
  (86, kF 13 "in_order" .none (vS "roadcall.pairs" 270) 85),
  (92, kC "coming_pairs" 286 34 1 3 87 true 181 88 (.ref 89) (.ref 90) 91 295 296),
  (93, kF 14 "coming_pairs" .none (vS "roadcall.pairs" 270) 92),
  (97, kC "led_to_some" 298 40 2 3 94 true 181 95 .none .none 96 301 302),
  (98, kF 15 "led_to_some" .none (vS "roadcall.pairs" 270) 97),
  (102, kC "never_called" 304 50 1 3 99 true 181 100 .none .none 101 307 308),
  (103, kF 16 "never_called" .none (vS "roadcall.pairs" 270) 102),
  (107, kC "stable_pairs" 312 56 1 3 104 true 181 105 .none .none 106 315 316),
  (108, kF 18 "stable_pairs" .none (vS "roadcall.stable" 310) 107),
  (114, kC "_law_bag" 320 61 2 3 109 true 181 110 (.ref 111) (.ref 112) 113 328 329),
  (115, kF 20 "_law_bag" .none (vS "law_roadcall_k28_stable_pairs" 318) 114),
  (121, kC "_law_take" 331 71 2 3 116 true 181 117 (.ref 118) (.ref 119) 120 339 340),
  (122, kF 21 "_law_take" .none (vS "law_roadcall_k28_stable_pairs" 318) 121),
  (126, kC "_law_order" 342 83 2 3 123 true 181 124 .none .none 125 345 346),
  (127, kF 22 "_law_order" .none (vS "law_roadcall_k28_stable_pairs" 318) 126),
  (131, kC "_law_net" 348 86 2 3 128 true 181 129 .none .none 130 351 352),
  (132, kF 23 "_law_net" .none (vS "law_roadcall_k28_stable_pairs" 318) 131),
  (136, kC "_law_like" 354 109 2 3 133 true 181 134 .none .none 135 357 358),
  (137, kF 24 "_law_like" .none (vS "law_roadcall_k28_stable_pairs" 318) 136),
  (141, kC "_law_pairs" 360 119 1 3 138 true 181 139 .none .none 140 363 364),
  (142, kF 25 "_law_pairs" .none (vS "law_roadcall_k28_stable_pairs" 318) 141),
  (146, kC "_law_goals" 366 124 2 3 143 true 181 144 .none .none 145 369 370),
  (147, kF 26 "_law_goals" .none (vS "law_roadcall_k28_stable_pairs" 318) 146),
  (153, kC "_law_led" 372 126 2 3 148 true 181 149 (.ref 150) (.ref 151) 152 380 381),
  (154, kF 27 "_law_led" .none (vS "law_roadcall_k28_stable_pairs" 318) 153),
  (158, kC "_law_is_called" 383 135 2 3 155 true 181 156 .none .none 157 386 387),
  (159, kF 28 "_law_is_called" .none (vS "law_roadcall_k28_stable_pairs" 318) 158),
  (163, kC "_law_stable" 389 140 1 3 160 true 181 161 .none .none 162 392 393),
  (164, kF 29 "_law_stable" .none (vS "law_roadcall_k28_stable_pairs" 318) 163),
  (170, kC "law" 395 144 1 3 165 true 181 166 (.ref 167) (.ref 168) 169 403 404),
  (171, kF 30 "law" .none (vS "law_roadcall_k28_stable_pairs" 318) 170)]
noncomputable def MF : List Addr := [2, 3, 23, 24, 36, 37, 45, 46, 52, 53, 59, 60, 66, 67, 73, 74, 78, 79, 85, 86, 92, 93, 97, 98, 102, 103, 107, 108, 114, 115, 121, 122, 126, 127, 131, 132, 136, 137, 141, 142, 146, 147, 153, 154, 158, 159, 163, 164, 170, 171]
noncomputable def kq : Program := PySem.W.view PySem.Challenge.pw_roadcall_k28_stable_pairs [1, 2, 4, 5, 7, 8, 9, 10, 12, 13, 14, 15, 16, 18, 20, 21, 22, 23, 24, 25, 26, 27, 28, 29, 30]
noncomputable def kL : List Str := []
noncomputable def kH : PySem.W.Hook := PySem.W.kHook kK MF fun _ => by kernel_rfl
theorem Dh {r : PySem.W.OpenRow} {q : Program} {loose : List Str} {H : PySem.W.Hook} {d : DefRec} {EX : List (Str × Expr)} {N : Nat} (left : PySem.W.LeftO r.prog q loose (fun s => PySem.W.xlAt q [] s && PySem.W.recOk r.records s) H.obs H.val N)
    (Ln : PySem.W.defOf q r.name = some (d, EX)) (hp : r.prog.theDef r.name = some (d.params, d.body, d.scope)) (hk : PySem.W.kwWritten? d.params.kwonlyargs d.params.kw_defaults = some EX) (MG : (!r.writes || r.records.isEmpty) = true) (k1 : r.wellSaid = true)
    (ok : (PySem.W.chainsOk q && PySem.W.opensWell r.prog && (PySem.W.frees r.toRowW && r.within.isEmpty)) = true) (hb : r.prog.bare) (hw : r.toRowW.promised) (call : PySem.W.WalkO q loose (PySem.W.XL q []) H.says r.toRowW d EX fun f vs => PySem.call f vs) : r.Holds :=
  PySem.W.holds_open left H.of H.keeps (fun s e => PySem.W.xl_of s (Bool.and_eq_true_iff.mp e).1) PySem.W.XL.keeps Ln hp hk (fun s e => PySem.W.recFacts_of (Bool.and_eq_true_iff.mp e).2) MG k1 ok hb hw call
noncomputable def oeQ (p : Program) (w : World) (N : Nat) : Option Shared := ((PySem.W.Fast.tw10274390034422433532 PySem.W.Fast.tw14364793385576792824 (PySem.W.opening p) w N (PySem.W.Fast.tw1435165496053646825 (PySem.W.opening p)).1 (PySem.W.Fast.tw1435165496053646825 (PySem.W.opening p)).2).bind (PySem.W.Fast.tw14289696077712309145 p)).bind fun s₀ => match s₀.heap.isNs PySem.mainGlobals && s₀.gens.size == 0 with
  | true => (PySem.W.Fast.tw14082659384304107361 PySem.W.Fast.tw14364793385576792824 p w s₀.heap.objs.size (s₀.heap.nsMap PySem.mainGlobals "__annotations__") N s₀ (PySem.W.topStub p)).bind fun aE => match PySem.W.staticsOk (importedModules p.main.body) s₀.heap aE.heap && PySem.W.namesBound p aE.heap && PySem.W.gensDone aE && PySem.W.laidKept s₀.heap aE.heap with
      | true => some aE
      | false => none
  | false => none
theorem IH (p : Program) (w : World) (N : Nat) : PySem.W.openEnds treeTable p w N = oeQ p w N := by
  unfold oeQ
  rw [← PySem.W.Fast.te10274390034422433532, ← PySem.W.Fast.te14364793385576792824, ← PySem.W.Fast.te1435165496053646825, ← PySem.W.Fast.te14289696077712309145, ← PySem.W.Fast.te14082659384304107361]
  rfl
noncomputable def nsQ (q : Program) : List Str := (PySem.W.Fast.tw3399658132070893891 q).map (·.name)
theorem B3 (q : Program) : (recsOf q).map (·.name) = nsQ q := by unfold nsQ; rw [← PySem.W.Fast.te3399658132070893891]
noncomputable def c1Q (s : Shared) := PySem.W.Fast.tw5160383126252970620 (nsQ kq) (PySem.W.Fast.tw5991557255702980513 kq) [] { s with gens := #[] }
theorem II (s : Shared) : seen ((recsOf kq).map (·.name)) (ownsOf kq) [] { s with gens := #[] } = c1Q s := by unfold c1Q; rw [B3, ← PySem.W.Fast.te5160383126252970620, ← PySem.W.Fast.te5991557255702980513]
noncomputable def c2 (s : Shared) := (s.heap.bltView, s.heap.keysOk (PySem.W.looseW kq kL) ((recsOf kq).map (·.name)) ((litsOf kq).map (·.1)) ((clssOf kq (PySem.W.looseW kq kL)).map (·.name)) && s.heap.accountedOkI (importedModules PySem.Challenge.pw_roadcall_k28_stable_pairs.main.body) && s.heap.isNs mainGlobals && s.heap.isNs builtinsNs && tablesOk kq s.heap && (PySem.W.xlAt kq [] s && PySem.W.recOk [] s) && (s.gens.size == 0))
noncomputable def c2Q (s : Shared) := (s.heap.bltView, PySem.W.Fast.tw10880121769531294198 s.heap (PySem.W.Fast.tw821141287760084731 kq kL) (nsQ kq) ((PySem.W.Fast.tw7409074990110511671 kq).map (·.1)) ((PySem.W.Fast.tw13664370479719496447 kq (PySem.W.Fast.tw821141287760084731 kq kL)).map (·.name)) && PySem.W.Fast.tw14722251495701143533 s.heap (importedModules PySem.Challenge.pw_roadcall_k28_stable_pairs.main.body) && s.heap.isNs mainGlobals && s.heap.isNs builtinsNs && PySem.W.Fast.tw10994771534591457954 kq s.heap && (PySem.W.xlAt kq [] s && PySem.W.recOk [] s) && (s.gens.size == 0))
theorem IJ (s : Shared) : c2 s = c2Q s := by unfold c2 c2Q; rw [B3, ← PySem.W.Fast.te10880121769531294198, ← PySem.W.Fast.te821141287760084731, ← PySem.W.Fast.te7409074990110511671, ← PySem.W.Fast.te13664370479719496447, ← PySem.W.Fast.te14722251495701143533, ← PySem.W.Fast.te10994771534591457954]
noncomputable def c3 (s : Shared) := tabsOk kq s
noncomputable def c5 (s : Shared) := plainSeenE kq (PySem.W.looseW kq kL) s
noncomputable def c4 (s : Shared) := (PySem.pinSeenD kq (drecsOf kq) s, plainSeenD kq kL s, PySem.W.wideSeen kq s, PySem.W.clsSeenW kq kL s)
noncomputable def c3Q (s : Shared) := PySem.W.Fast.tw479339242167458305 kq s
noncomputable def c5Q (s : Shared) := PySem.W.Fast.tw2386780881361962483 kq (PySem.W.Fast.tw821141287760084731 kq kL) s
noncomputable def c4Q (s : Shared) := (PySem.W.Fast.tw16090120013241838585 kq (PySem.W.Fast.tw3247288618530077131 kq) s, PySem.W.Fast.tw11698064438423848299 kq kL s, PySem.W.Fast.tw7317090234206586261 kq s, PySem.W.Fast.tw7369524293546568484 kq kL s)
theorem IK (s : Shared) : c3 s = c3Q s := by unfold c3 c3Q; rw [← PySem.W.Fast.te479339242167458305]
theorem IL (s : Shared) : c5 s = c5Q s := by unfold c5 c5Q; rw [← PySem.W.Fast.te2386780881361962483, ← PySem.W.Fast.te821141287760084731]
theorem IM (s : Shared) : c4 s = c4Q s := by unfold c4 c4Q; rw [← PySem.W.Fast.te16090120013241838585, ← PySem.W.Fast.te3247288618530077131, ← PySem.W.Fast.te11698064438423848299, ← PySem.W.Fast.te7317090234206586261, ← PySem.W.Fast.te7369524293546568484]
set_option maxHeartbeats 0 in
theorem left0 (w : World) : (oeQ PySem.Challenge.pw_roadcall_k28_stable_pairs w 2316).map (fun s => kH.obs s) = some (kH.val w) := by kernel_rfl
set_option maxHeartbeats 0 in
theorem left1 (w : World) : (oeQ PySem.Challenge.pw_roadcall_k28_stable_pairs w 2316).map c1Q = some (expectedOf kq) := by kernel_rfl
set_option maxHeartbeats 0 in
theorem left2 (w : World) : (oeQ PySem.Challenge.pw_roadcall_k28_stable_pairs w 2316).map c2Q = some (bltViewBooted, true) := by kernel_rfl
set_option maxHeartbeats 0 in
theorem left3 (w : World) : (oeQ PySem.Challenge.pw_roadcall_k28_stable_pairs w 2316).map c3Q = some true := by kernel_rfl
set_option maxHeartbeats 0 in
theorem left5 (w : World) : (oeQ PySem.Challenge.pw_roadcall_k28_stable_pairs w 2316).map c5Q = some (plainGoodE kq (PySem.W.looseW kq kL)) := by kernel_rfl
set_option maxHeartbeats 0 in
theorem left4 (w : World) : (oeQ PySem.Challenge.pw_roadcall_k28_stable_pairs w 2316).map c4Q = some (PySem.pinGoodD (drecsOf kq), plainGoodD kq kL, PySem.W.wideGood kq, PySem.W.clsGoodW kq kL) := by kernel_rfl
theorem left (w : World) : (PySem.W.openEnds treeTable PySem.Challenge.pw_roadcall_k28_stable_pairs w 2316).map (fun s => (PySem.W.openSeen kq kL (importedModules PySem.Challenge.pw_roadcall_k28_stable_pairs.main.body) (fun s => PySem.W.xlAt kq [] s && PySem.W.recOk [] s) true s, kH.obs s)) = some (PySem.W.openGood kq kL, kH.val w) := by
  rw [IH]
  have a0 := left0 w
  have a1 := left1 w
  have a2 := left2 w
  have a3 := left3 w
  have a4 := left4 w
  have a5 := left5 w
  revert a0 a1 a2 a3 a4 a5
  generalize oeQ PySem.Challenge.pw_roadcall_k28_stable_pairs w 2316 = o
  cases o with
  | none => intro a0; cases a0
  | some s =>
    intro a0 a1 a2 a3 a4 a5
    have a0 : kH.obs s = kH.val w := Option.some.inj a0
    have a1 := Option.some.inj a1
    have a2 := Option.some.inj a2
    have a3 := Option.some.inj a3
    have a4 := Option.some.inj a4
    have a5 := Option.some.inj a5
    rw [← II] at a1
    rw [← IJ] at a2
    rw [← IK] at a3
    rw [← IM] at a4
    rw [← IL] at a5
    show some ((seen ((recsOf kq).map (·.name)) (ownsOf kq) [] { s with gens := #[] }, (c2 s).1, (c2 s).2, c3 s, (c4 s).1, c5 s, (c4 s).2), kH.obs s) = _
    rw [a0, a1, a2, a3, a4, a5]
    rfl
end My
namespace L2
open PySem PySem.Spec PyProof.Rows
noncomputable abbrev Key := Sum Int Str
noncomputable def mF : Key → Value → Bool
  | .inl k, v => Value.isInt k v
  | .inr x, v => Value.isStrOf x v
noncomputable def Lp (w : World) : Key → Int
  | .inl k => hashInt k
  | .inr x => hashStr w x
theorem cz : ∀ {k : Key} {v : Value}, mF k v = true → (∃ i t, k = Sum.inl i ∧ v = Value.int i t) ∨ (∃ x t, k = Sum.inr x ∧ v = Value.str x t)
  | .inl i, v, h => by
    obtain ⟨t, e⟩ := Value.isInt_shape (k := i) (v := v) h
    exact .inl ⟨i, t, rfl, e⟩
  | .inr x, v, h => by
    obtain ⟨t, e⟩ := Value.isStrOf_shape (x := x) (v := v) h
    exact .inr ⟨x, t, rfl, e⟩
theorem xq (i : Int) (t : Tok) : mF (.inl i) (.int i t) = true := by simp [mF, Value.isInt]
theorem xr (x : Str) (t : Tok) : mF (.inr x) (.str x t) = true := by simp [mF, Value.isStrOf]
theorem EY (a b : Int) : decide ((Sum.inl a : Key) = Sum.inl b) = (a == b) := by
  by_cases e : a = b
  · subst e; simp
  · have h : ¬ (Sum.inl a : Key) = Sum.inl b := fun q => e (Sum.inl.inj q)
    rw [decide_eq_false h]
    exact (beq_eq_false_iff_ne.mpr e).symm
theorem EZ (a b : Str) : decide ((Sum.inr a : Key) = Sum.inr b) = decide (a = b) := by
  by_cases e : a = b
  · subst e; simp
  · have h : ¬ (Sum.inr a : Key) = Sum.inr b := fun q => e (Sum.inr.inj q)
    rw [decide_eq_false h, decide_eq_false e]
theorem E1 (a : Int) (b : Str) : decide ((Sum.inl a : Key) = Sum.inr b) = false := decide_eq_false (fun q => nomatch q)
theorem E2 (a : Str) (b : Int) : decide ((Sum.inr a : Key) = Sum.inl b) = false := decide_eq_false (fun q => nomatch q)
noncomputable def bA (prog : Program) (w : World) : PySem.KeyKind prog w Key where
  is := mF
  hash := Lp w
  inj := fun v a b ha hb => by
    rcases cz ha with ⟨i, t, rfl, rfl⟩ | ⟨x, t, rfl, rfl⟩
    · rcases cz hb with ⟨j, u, rfl, e⟩ | ⟨y, u, rfl, e⟩
      · injection e with e1 _; rw [e1]
      · exact nomatch e
    · rcases cz hb with ⟨j, u, rfl, e⟩ | ⟨y, u, rfl, e⟩
      · exact nomatch e
      · injection e with e1 _; rw [e1]
  byValue := fun k v h => by
    rcases cz h with ⟨i, t, rfl, rfl⟩ | ⟨x, t, rfl, rfl⟩ <;> rfl
  pyHash := fun hv h => by
    rcases cz hv with ⟨i, t, rfl, rfl⟩ | ⟨x, t, rfl, rfl⟩
    · exact wpAny_pyHash_int h
    · exact wpAny_pyHash_str h
  eqBool := fun hu hv h => by
    rcases cz hu with ⟨i, t, rfl, rfl⟩ | ⟨x, t, rfl, rfl⟩
    · rcases cz hv with ⟨j, u, rfl, rfl⟩ | ⟨y, u, rfl, rfl⟩
      · rw [EY] at h; exact wpAny_eqBool_int h
      · rw [E1] at h; exact SeqAt.EqAt.int_str i t y u _ _ _ _ h
    · rcases cz hv with ⟨j, u, rfl, rfl⟩ | ⟨y, u, rfl, rfl⟩
      · rw [E2] at h; exact SeqAt.EqAt.str_int x t j u _ _ _ _ h
      · rw [EZ] at h; exact wpAny_eqBool_str h
  «strs» := fun k x t v h => by
    rcases cz h with ⟨i, u, rfl, e⟩ | ⟨y, u, rfl, e⟩
    · exact nomatch e
    · injection e with e1 _
      subst e1
      cases v <;> rfl
theorem uI (prog : Program) (w : World) (i : Int) (t : Tok) : (bA prog w).is (.inl i) (.int i t) = true := xq i t
theorem uJ (prog : Program) (w : World) (x : Str) (t : Tok) : (bA prog w).is (.inr x) (.str x t) = true := xr x t
inductive V where
  | au | bl (b : Bool) | int (i : Int) | str (x : Str) | iT (b : Array UInt8) | ve (b : UInt64) | ref (a : Addr) | ty (n : String)
  deriving DecidableEq
noncomputable def RelV : V → Value → Prop
  | .au, u => u = Value.none
  | .bl b, u => u = Value.bool b
  | .int i, u => ∃ t, u = Value.int i t
  | .str x, u => ∃ t, u = Value.str x t
  | .iT b, u => ∃ t, u = Value.bytes b t
  | .ve b, u => ∃ t, u = Value.float b t
  | .ref a, u => u = Value.ref a
  | .ty n, u => u = Value.type n
noncomputable abbrev Vals : List V → List Value → Prop := Paired RelV
theorem Vals.length {xs : List V} {us : List Value} (r : Vals xs us) : xs.length = us.length := Paired.length r
theorem Vals.get : ∀ {xs : List V} {us : List Value} {i : Nat} {x : V}, Vals xs us → xs[i]? = some x → ∃ u, us[i]? = some u ∧ RelV x u
  | _, _, _, _, .nil, e => by simp at e
  | _, _, 0, _, .cons r _, e => by simp at e; subst e; exact ⟨_, rfl, r⟩
  | _, _, i + 1, x, .cons _ t, e => by
    obtain ⟨u, h1, h2⟩ := Vals.get (i := i) (x := x) t (by simpa using e)
    exact ⟨u, by simpa using h1, h2⟩
theorem Vals.set {x : V} {u : Value} (r : RelV x u) : ∀ {xs : List V} {us : List Value} (i : Nat), Vals xs us → Vals (xs.set i x) (us.set i u)
  | _, _, _, .nil => .nil
  | _, _, 0, .cons _ t => .cons r t
  | _, _, i + 1, .cons q t => .cons q (Vals.set r i t)
theorem Vals.append : ∀ {xs ys : List V} {us ws : List Value}, Vals xs us → Vals ys ws → Vals (xs ++ ys) (us ++ ws)
  | _, _, _, _, .nil, s => s
  | _, _, _, _, .cons r t, s => .cons r (Vals.append t s)
theorem Vals.take : ∀ {xs : List V} {us : List Value} (n : Nat), Vals xs us → Vals (xs.take n) (us.take n)
  | _, _, 0, _ => .nil
  | _, _, _ + 1, .nil => .nil
  | _, _, n + 1, .cons r t => .cons r (Vals.take n t)
theorem Vals.drop : ∀ {xs : List V} {us : List Value} (n : Nat), Vals xs us → Vals (xs.drop n) (us.drop n)
  | _, _, 0, r => r
  | _, _, _ + 1, .nil => .nil
  | _, _, n + 1, .cons _ t => Vals.drop n t
noncomputable def gN : Option V → Option Value → Prop
  | some v, some u => RelV v u
  | none, none => True
  | _, _ => False
noncomputable def KV {κ : Type} : List (κ × V) → List (κ × Value) → Prop := Paired fun (p : κ × V) (q : κ × Value) => p.1 = q.1 ∧ RelV p.2 q.2
noncomputable def kV : Key → V
  | .inl i => .int i
  | .inr x => .str x
inductive HO where
  | lst (xs : List V)
  | tup (xs : List V)
  | dK (aq : List (Key × V)) | dT (aq : List (List Key × V))
  | set (S : Int → Bool) (n : Nat)
  | ins (C dx : Addr) (fs : List (Str × V))
  | own (x : Addr)
  | xd (fs : List (Str × V))
  | met (f x : Addr)
  | B4 (lo hi : Int)
  | fm (o : Obj) (u : HO)
  | cE (ps : Array Value)
  | lam (ps : Array Value)
  | ext (φ : Heap → Prop)
noncomputable abbrev Hp := Addr → Option HO
noncomputable def upd (H : Hp) (a : Addr) (o : HO) : Hp := fun b => if b = a then some o else H b
theorem aM {H : Hp} {a : Addr} {o : HO} : upd H a o a = some o := by unfold upd; rw [if_pos rfl]
theorem ai {H : Hp} {a b : Addr} {o : HO} (h : b ≠ a) : upd H a o b = H b := by unfold upd; rw [if_neg h]
theorem og {H : Hp} {a b : Addr} {o u : HO} (h : H a = some o) (h' : H b = some u) (d : o ≠ u) : a ≠ b := by
  intro e; subst e; rw [h] at h'; exact d (Option.some.inj h')
theorem bh {H : Hp} {a b : Addr} {o : HO} (h : H a = some o) (h' : H b = none) : a ≠ b := by
  intro e; subst e; rw [h] at h'; cases h'
section
variable (P : Program) (w : World)
noncomputable def kb (h : Heap) (a : Addr) (items : Array Value) : Prop := ∃ o, h.get? a = some o ∧ o.cls = .type "tuple" ∧ ∃ n, o.data = .seq items n ∧ o.dict = none
theorem kb.tup {h : Heap} {a : Addr} {items : Array Value} (x : kb h a items) : IsTup h a items := let ⟨o, e, c, n, d, _⟩ := x; ⟨o, e, c, n, d⟩
theorem kb.lt {h : Heap} {a : Addr} {items : Array Value} (x : kb h a items) : a < h.objs.size := x.tup.lt
theorem kb.new (h : Heap) (items : Array Value) : kb (h.push { cls := .type "tuple", data := .seq items }) h.objs.size items := ⟨_, Heap.get?_push_size _ rfl, rfl, _, rfl, rfl⟩
noncomputable def ObjOk (H : Hp) (h : Heap) (a : Addr) : HO → Prop
  | .lst xs => xs.length ≤ sizeLine ∧ ∃ (its : List Value) (n : Nat), Vals xs its ∧ h.get? a = some { cls := .type "list", data := .seq its.toArray n }
  | .tup xs => xs.length ≤ sizeLine ∧ ∃ its : List Value, Vals xs its ∧ kb h a its.toArray
  | .dK aq => aq.length ≤ sizeLine ∧ (a == sysModules) = false ∧ ∃ vs, KV aq vs ∧ h.DictOf (bA P w) a vs
  | .dT aq => aq.length ≤ sizeLine ∧ (a == sysModules) = false ∧ ∃ xs : List (List Key × Addr × Value),
      Paired (fun (p : List Key × V) (q : List Key × Addr × Value) => p.1 = q.1 ∧ H q.2.1 = some (.tup (p.1.map kV)) ∧ RelV p.2 q.2.2) aq xs ∧
      ∃ o es ep, h.get? a = some o ∧ o.ExactDict ∧ o.data = .dict es ep ∧ es.toList = xs.map (entryOfKey (tupleKind (bA P w))) ∧ (xs.map (·.1)).Nodup
  | .set S n => h.SetOf (intKind P w) a S n
  | .ins C dx fs => H dx = some (.own a) ∧ fs.length ≤ 1000 ∧ dx ≠ a ∧ h.get? a = some (PySem.W.instObj C dx) ∧
      ∃ mA, h.Ns1 dx mA ∧ (∀ f, gN (fs.lookup f) (mA f)) ∧ PySem.Within mA (fs.map (·.1))
  | .own _ => ∃ o, h.get? a = some o
  | .xd fs => ∃ mA, h.Ns1 a mA ∧ ∀ f, gN (fs.lookup f) (mA f)
  | .B4 lo hi => ∃ t u v, h.get? a = some { cls := .type "range", data := .fields #[.int lo t, .int hi u, .int 1 v] }
  | .fm o u => h.get? a = some o ∧ ObjOk H h a u
  | .cE ps => h.get? a = some { cls := .none, data := .fields ps }
  | .lam ps => h.get? a = some { cls := .none, data := .fields ps }
  | .met f x => h.get? a = some (PySem.W.methodObj (.ref f) (.ref x))
  | .ext φ => φ h ∧ (∃ o, h.get? a = some o) ∧ ∀ h1 h2 : Heap, φ h1 → (∀ o, h1.get? a = some o → h2.get? a = some o) → φ h2
noncomputable def cw (H : Hp) (h : Heap) : Prop := ∀ a o, H a = some o → ObjOk P w H h a o
end
section
variable {P : Program} {w : World} {H H' : Hp} {h h' : Heap} {a : Addr} {o : HO}
theorem ObjOk.lt (x : ObjOk P w H h a o) : a < h.objs.size := by
  cases o with
  | lst xs => obtain ⟨_, _, _, _, e⟩ := x; exact Heap.lt_size e
  | tup xs => obtain ⟨_, _, _, p⟩ := x; exact p.lt
  | dK aq => obtain ⟨_, _, _, _, o, _, _, e, _⟩ := x; exact Heap.lt_size e
  | dT aq => obtain ⟨_, _, _, _, o, _, _, e, _⟩ := x; exact Heap.lt_size e
  | set S n => obtain ⟨o, _, _, _, e, _⟩ := x; exact Heap.lt_size e
  | ins C dx fs => obtain ⟨_, _, _, e, _⟩ := x; exact Heap.lt_size e
  | own y => obtain ⟨_, e⟩ := x; exact Heap.lt_size e
  | xd fs => obtain ⟨_, ⟨_, _, _, e, _⟩, _⟩ := x; exact Heap.lt_size e
  | B4 lo hi => obtain ⟨_, _, _, e⟩ := x; exact Heap.lt_size e
  | fm ob u => obtain ⟨e, _⟩ := x; exact Heap.lt_size e
  | cE ps => exact Heap.lt_size (show h.get? a = some _ from x)
  | lam ps => exact Heap.lt_size (show h.get? a = some _ from x)
  | met f y => exact Heap.lt_size (show h.get? a = some _ from x)
  | ext φ => obtain ⟨_, ⟨_, e⟩, _⟩ := x; exact Heap.lt_size e
theorem Paired.vU {α β : Type} {F G : α → β → Prop} : ∀ {rZ : List α} {l₂ : List β}, Paired F rZ l₂ → (∀ a b, F a b → G a b) → Paired G rZ l₂
  | _, _, .nil, _ => .nil
  | _, _, .cons r t, f => .cons (f _ _ r) (Paired.vU t f)
theorem Paired.imp' {α β : Type} {F G : α → β → Prop} (f : ∀ a b, F a b → G a b) {rZ : List α} {l₂ : List β} (r : Paired F rZ l₂) : Paired G rZ l₂ := Paired.vU r f
theorem ObjOk.kc (x : ObjOk P w H h a o) (k : ∀ b u, (b = a ∨ H b = some (.own a)) → h.get? b = some u → h'.get? b = some u)
    (ho : ∀ b, H b = some (.own a) → H' b = some (.own a)) (ht : ∀ b xs, H b = some (.tup xs) → H' b = some (.tup xs)) : ObjOk P w H' h' a o := by
  induction o with
  | lst xs => obtain ⟨z, its, n, r, e⟩ := x; exact ⟨z, its, n, r, k _ _ (.inl rfl) e⟩
  | tup xs => obtain ⟨z, its, r, ob, e, c⟩ := x; exact ⟨z, its, r, ob, k _ _ (.inl rfl) e, c⟩
  | dK aq => obtain ⟨z, y, vs, r, ob, es, ep, e, c⟩ := x; exact ⟨z, y, vs, r, ob, es, ep, k _ _ (.inl rfl) e, c⟩
  | dT aq =>
    obtain ⟨z, y, xs, r, ob, es, ep, e, c⟩ := x
    exact ⟨z, y, xs, Paired.vU r fun p q z => ⟨z.1, ht _ _ z.2.1, z.2.2⟩, ob, es, ep, k _ _ (.inl rfl) e, c⟩
  | set S n => obtain ⟨ob, es, ep, t, e, c⟩ := x; exact ⟨ob, es, ep, t, k _ _ (.inl rfl) e, c⟩
  | ins C dx fs =>
    obtain ⟨d, z, ne, e, mA, ⟨od, es, ep, e2, c⟩, r⟩ := x
    exact ⟨ho _ d, z, ne, k _ _ (.inl rfl) e, mA, ⟨od, es, ep, k _ _ (.inr d) e2, c⟩, r⟩
  | own y => obtain ⟨ob, e⟩ := x; exact ⟨ob, k _ _ (.inl rfl) e⟩
  | xd fs => obtain ⟨mA, ⟨od, es, ep, e, c⟩, r⟩ := x; exact ⟨mA, ⟨od, es, ep, k _ _ (.inl rfl) e, c⟩, r⟩
  | B4 lo hi => obtain ⟨t, u, v, e⟩ := x; exact ⟨t, u, v, k _ _ (.inl rfl) e⟩
  | fm ob u ih => obtain ⟨e, q⟩ := x; exact ⟨k _ _ (.inl rfl) e, ih q⟩
  | cE ps =>
    have e : h.get? a = some { cls := .none, data := .fields ps } := x
    show h'.get? a = some { cls := .none, data := .fields ps }
    exact k a _ (.inl rfl) e
  | lam ps =>
    have e : h.get? a = some { cls := .none, data := .fields ps } := x
    show h'.get? a = some { cls := .none, data := .fields ps }
    exact k a _ (.inl rfl) e
  | met f y =>
    have e : h.get? a = some (PySem.W.methodObj (.ref f) (.ref y)) := x
    show h'.get? a = some (PySem.W.methodObj (.ref f) (.ref y))
    exact k a _ (.inl rfl) e
  | ext φ => obtain ⟨p, ⟨o, e⟩, st⟩ := x; exact ⟨st _ _ p fun o q => k _ _ (.inl rfl) q, ⟨o, k _ _ (.inl rfl) e⟩, st⟩
theorem cw.lt (x : cw P w H h) (e : H a = some o) : a < h.objs.size := (x a o e).lt
theorem cw.fresh (x : cw P w H h) (e : h.objs.size ≤ a) : H a = none := by
  cases q : H a with
  | none => rfl
  | some u => exact absurd (Nat.lt_of_lt_of_le (x.lt q) e) (Nat.lt_irrefl _)
theorem cw.kept (x : cw P w H h) (k : ∀ b u, h.get? b = some u → h'.get? b = some u) : cw P w H h' := fun a o e =>
  (x a o e).kc (fun b u _ q => k b u q) (fun _ q => q) fun _ _ q => q
theorem cw.laid (x : cw P w H h) (k : ∀ b u, h.get? b = some u → h'.get? b = some u) (hp : h.objs.size ≤ a) (new : ObjOk P w (upd H a o) h' a o) : cw P w (upd H a o) h' := fun b u e => by
  have hn := x.fresh hp
  by_cases hb : b = a
  · subst hb; rw [aM] at e; cases e; exact new
  · rw [ai hb] at e
    exact (x b u e).kc (fun c v _ q => k c v q) (fun c q => by rw [ai (bh q hn)]; exact q) fun c xs q => by rw [ai (bh q hn)]; exact q
end
noncomputable def Rd (H : Hp) (a : Addr) (u : HO) : Prop := H a = some u ∨ ∃ o, H a = some (.fm o u)
theorem Rd.ok {P : Program} {w : World} {H : Hp} {h : Heap} {a : Addr} {u : HO} (r : Rd H a u) (x : cw P w H h) : ObjOk P w H h a u := by
  rcases r with r | ⟨o, r⟩
  · exact x a u r
  · obtain ⟨_, q⟩ := x a _ r
    exact q
noncomputable def xt : Option HO → Prop
  | some (.lst _) => True
  | some (.dK _) => True
  | some (.dT _) => True
  | some (.set _ _) => True
  | some (.ins _ _ _) => True
  | some (.ext _) => True
  | some (.lam _) => True
  | _ => False
section
variable {P : Program} {w : World} {H : Hp} {h h' : Heap} {x e : Addr} {o' : HO}
theorem cw.write (ok : cw P w H h) (mu : xt (H x)) (he : e = x ∨ H e = some (.own x)) (k : ∀ b u, b ≠ e → h.get? b = some u → h'.get? b = some u) (vf : ∃ u, h'.get? e = some u)
    (new : ObjOk P w (upd H x o') h' x o') : cw P w (upd H x o') h' := fun b u q => by
  have E3 : ∀ c y, H c = some (.own y) → c ≠ x := fun c y r z => by subst z; rw [r] at mu; exact mu
  have Lq : ∀ c xs, H c = some (.tup xs) → c ≠ x := fun c xs r z => by subst z; rw [r] at mu; exact mu
  by_cases hb : b = x
  · subst hb; rw [aM] at q; cases q; exact new
  · rw [ai hb] at q
    by_cases sd : b = e
    · have q' : H b = some (.own x) := by
        rcases he with z | z
        · exact absurd (sd.trans z) hb
        · rw [sd]; exact z
      rw [q] at q'; cases q'
      obtain ⟨v, hv⟩ := vf
      exact ⟨v, by rw [sd]; exact hv⟩
    · refine (ok b u q).kc (fun c v hc r => k c v ?_ r) (fun c r => by rw [ai (E3 c b r)]; exact r) fun c xs r => by rw [ai (Lq c xs r)]; exact r
      rcases hc with rfl | hc
      · exact sd
      · rintro rfl
        rcases he with z | z
        · exact E3 c b hc z
        · rw [hc] at z; cases z; exact hb rfl
end
structure Un (fs ex : List Addr) (H H' : Hp) (h h' : Heap) : Prop where
  keep : ∀ b o, h.get? b = some o → H b = none → b ∉ fs → b ∉ ex → h'.get? b = some o
  slot : ∀ b o, h.get? b = some o → H b = none → b ∈ fs → b ∉ ex → ∃ sl, h'.get? b = some { o with slots := sl }
  free : ∀ b o, h.get? b = some o → H b = none → b ∉ ex → H' b = none
  there : ∀ b o, h.get? b = some o → b ∉ ex → ∃ o', h'.get? b = some o'
  tups : ∀ b xs, H b = some (.tup xs) → H' b = some (.tup xs)
  frzs : ∀ b o u, H b = some (.fm o u) → H' b = some (.fm o u)
  tbls : ∀ b ps, H b = some (.cE ps) → ∃ more, H' b = some (.cE (ps ++ more))
section
variable {fs MH ex OI : List Addr} {H H1 H2 : Hp} {h h1 h2 h' : Heap} {a x e : Addr} {o : HO}
theorem Un.any (u : Un fs ex H H1 h h1) {b : Addr} {ob : Obj} (q : h.get? b = some ob) (n : H b = none) (hx : b ∉ ex) : ∃ sl, h1.get? b = some { ob with slots := sl } := by
  by_cases hb : b ∈ fs
  · exact u.slot b ob q n hb hx
  · exact ⟨ob.slots, u.keep b ob q n hb hx⟩
theorem Un.kept (k : ∀ b u, h.get? b = some u → h'.get? b = some u) : Un fs ex H H h h' :=
  ⟨fun b ob q _ _ _ => k b ob q, fun b ob q _ _ _ => ⟨ob.slots, k b ob q⟩, fun _ _ _ n _ => n, fun b ob q _ => ⟨ob, k b ob q⟩, fun _ _ q => q, fun _ _ _ q => q, fun _ ps q => ⟨#[], by rw [q]; simp⟩⟩
theorem Un.refl : Un fs ex H H h h := Un.kept fun _ _ q => q
theorem Un.laid (k : ∀ b u, h.get? b = some u → h'.get? b = some u) (hp : h.objs.size ≤ a) (hn : H a = none) : Un fs ex H (upd H a o) h h' where
  keep := fun b u q _ _ _ => k b u q
  slot := fun b u q _ _ _ => ⟨u.slots, k b u q⟩
  free := fun b u q n _ => by rw [ai (Nat.ne_of_lt (Nat.lt_of_lt_of_le (Heap.lt_size q) hp))]; exact n
  there := fun b u q _ => ⟨u, k b u q⟩
  tups := fun b xs q => by rw [ai (bh q hn)]; exact q
  frzs := fun b u xs q => by rw [ai (bh q hn)]; exact q
  tbls := fun b ps q => ⟨#[], by rw [ai (bh q hn), q]; simp⟩
theorem Un.write (mu : xt (H x)) (he : e = x ∨ H e = some (.own x)) (k : ∀ b u, b ≠ e → h.get? b = some u → h'.get? b = some u) (vf : ∃ u, h'.get? e = some u) : Un fs ex H (upd H x o) h h' := by
  have hx : ∀ b, H b = none → b ≠ x := fun b n z => by subst z; rw [n] at mu; exact mu
  have hb : ∀ b, H b = none → b ≠ e := fun b n z => by
    subst z
    rcases he with r | r
    · exact hx b n r
    · rw [n] at r; cases r
  have hm : ∀ b u, H b = some u → ¬ xt (some u) → b ≠ x := fun b u q nm z => by subst z; rw [q] at mu; exact nm mu
  refine ⟨fun b u q n _ _ => k b u (hb b n) q, fun b u q n _ _ => ⟨u.slots, k b u (hb b n) q⟩, fun b u q n _ => by rw [ai (hx b n)]; exact n, fun b u q _ => ?_,
    fun b xs q => by rw [ai (hm b _ q fun z => z)]; exact q, fun b u xs q => by rw [ai (hm b _ q fun z => z)]; exact q, fun b ps q => ⟨#[], by rw [ai (hm b _ q fun z => z), q]; simp⟩⟩
  by_cases sd : b = e
  · subst sd; exact vf
  · exact ⟨u, k b u sd q⟩
end
noncomputable def B5 (h : Heap) (H : Hp) : List Addr := (List.range h.objs.size).filter fun a => (H a).isSome
noncomputable def iU (h : Heap) (H : Hp) : Heap := PySem.W.hideAll h (B5 h H)
theorem xu (h : Heap) (H : Hp) : (iU h H).objs.size = h.objs.size := PySem.W.hideAll_size _ _
theorem Af {h : Heap} {H : Hp} {b : Addr} {o : Obj} (e : h.get? b = some o) (n : H b = none) : (iU h H).get? b = some o :=
  PySem.W.hideAll_get _ e fun hm => by
    have q : (H b).isSome = true := (List.mem_filter.mp hm).2
    rw [n] at q; simp at q
theorem Di {h : Heap} {H : Hp} {b : Addr} {o : Obj} (e : (iU h H).get? b = some o) : h.get? b = some o ∧ H b = none := by
  have e' : h.get? b = some o := PySem.W.of_hideAll (B5 h H) e
  refine ⟨e', ?_⟩
  cases q : H b with
  | none => rfl
  | some x =>
    have hm : b ∈ B5 h H := List.mem_filter.mpr ⟨List.mem_range.mpr (Heap.lt_size e'), by simp [q]⟩
    have z : (iU h H).get? b = none := PySem.W.hideAll_none (B5 h H) hm
    rw [z] at e; cases e
noncomputable def Dj (g h : Heap) (L : Addr) : List (Addr × Obj) := (List.range h.objs.size).filterMap fun a => if a = L ∨ (g.get? a).isSome = true then none else (h.get? a).map fun o => (a, o)
noncomputable def rest (g h : Heap) (L d : Addr) : List (Addr × Obj) := (Dj g h L).filter fun p => decide (p.1 ≠ d)
structure Mod (K : PySem.W.Frag) (mg : Str → Option Value) (base : Heap) : Prop where
  kin : K.In base
  glob : base.Ns mainGlobals mg
  blt : ∃ mb, base.Ns builtinsNs mb ∧ ∀ x : Str, x ≠ "__name__" → mb x = bootBuiltins x
  nolimit : base.NoLimit
structure Cx where
  prog : Program
  w : World
  K : PySem.W.Frag
  mg : Str → Option Value
  base : Heap
  A : Around
  N : List Str
  s₀ : Shared
  H₀ : Hp
  env : Env
  outer : List Env
  stack : List Env
  ex : List Addr
  fn : Str → Bool
  calm : Bool
  pn : List (Addr × Obj)
  xe : Value → Shared → Prop
noncomputable def fo (l : List Env) : List Addr := l.filterMap (·.frame)
noncomputable abbrev Cx.fs (X : Cx) : List Addr := fo X.outer
noncomputable def qp (sc : Scope) (x : Str) : Prop := sc.names.lookup x = some .local ∨ sc.names.lookup x = some .cell ∨ sc.names.lookup x = some .free
noncomputable def Loc (sc : Scope) (x : Str) : Prop := sc.names.lookup x = some .local ∨ sc.names.lookup x = some .cell
noncomputable def Look (env : Env) (h : Heap) (m : Str → Option Value) (x : Str) (u : Value) : Prop :=
  (env.kindOf x = some .local ∧ m x = some u) ∨ ((env.kindOf x = some .cell ∨ env.kindOf x = some .free) ∧ ∃ c, env.cells.lookup x = some c ∧ h.IsCell c (some u))
structure Cx.Ok (X : Cx) : Prop where
  mod : Mod X.K X.mg X.base
  kind : X.env.scope.kind = .function
  glob : X.env.globals = mainGlobals
  blt : X.env.builtins = builtinsNs
  above : X.s₀.heap.objs.size ≤ X.env.locals
  inj : ∀ x y c, X.env.cells.lookup x = some c → X.env.cells.lookup y = some c → x = y
  has : ∀ x, (X.env.kindOf x = some .cell ∨ X.env.kindOf x = some .free) → ∃ c, X.env.cells.lookup x = some c
  cab : ∀ x c, X.fn x = true → X.env.cells.lookup x = some c → X.s₀.heap.objs.size ≤ c
  hd : X.calm = true → X.A.handled = none
  frames : X.A.frames = some X.stack
  stk : X.stack = X.outer ∨ (X.stack = X.env :: X.outer ∧ X.env.frame = some X.env.locals)
  exf : ∀ b ∈ X.ex, b ≠ X.env.locals ∧ ∀ x c, X.env.cells.lookup x = some c → c ≠ b
  bs : ∀ b o, X.base.get? b = some o → X.s₀.heap.get? b = some o ∧ X.H₀ b = none
  bsz : X.base.objs.size ≤ X.s₀.heap.objs.size
  noex : ∀ b o, X.base.get? b = some o → b ∉ X.ex
  exfs : ∀ b ∈ X.ex, b ∉ X.fs
  funs : X.s₀.heap.FunFrames X.base X.outer
  frf : ∀ b ∈ X.fs, X.H₀ b = none
noncomputable def Gn (n : Nat) (g : Array GenState) : Prop := AllBare g ∧ n ≤ g.size
theorem Gn.self {n : Nat} {g : Array GenState} (x : Gn n g) : Gn g.size g := ⟨x.1, Nat.le_refl _⟩
theorem Gn.trans {n : Nat} {g g' : Array GenState} (x : Gn n g) (y : Gn g.size g') : Gn n g' := ⟨y.1, Nat.le_trans x.2 y.2⟩
structure Inv (X : Cx) (pins : List (Addr × Obj)) (σ : List (Option V)) (H : Hp) (s : Shared) : Prop where
  ok : X.Ok
  os : s.os = X.s₀.os
  bare : Gn X.s₀.gens.size s.gens
  base : Un X.fs X.ex X.H₀ H X.s₀.heap s.heap
  loc : ∃ m, s.heap.Ns X.env.locals m ∧ ∀ (i : Nat) (x : Str) (v : V), X.N[i]? = some x → σ[i]? = some (some v) → qp X.env.scope x → ∃ u, RelV v u ∧ Look X.env s.heap m x u
  cell : ∀ x c, X.env.cells.lookup x = some c → ∃ v, s.heap.IsCell c v
  free : H X.env.locals = none
  freeC : ∀ x c, X.env.cells.lookup x = some c → H c = none
  pin : ∀ p ∈ X.pn ++ pins, s.heap.get? p.1 = some p.2 ∧ H p.1 = none ∧ p.1 ≠ X.env.locals ∧ p.1 ∉ X.fs ∧ ∀ v, p.2.data ≠ .cell v
  hok : cw X.prog X.w H s.heap
  len : σ.length = X.N.length
section
variable {X : Cx} {pins : List (Addr × Obj)} {σ : List (Option V)} {H H' : Hp} {s : Shared} {h' : Heap}
theorem Cx.Ok.Lr (ok : X.Ok) {b : Addr} {o : Obj} (e : X.base.get? b = some o) : b ∉ X.fs := fun hb => by
  have := (ok.funs.mem hb).1
  rw [e] at this; cases this
theorem Inv.bs (I : Inv X pins σ H s) : ∀ b o, X.base.get? b = some o → s.heap.get? b = some o ∧ H b = none := fun b o e =>
  ⟨I.base.keep b o (I.ok.bs b o e).1 (I.ok.bs b o e).2 (I.ok.Lr e) (I.ok.noex b o e), I.base.free b o (I.ok.bs b o e).1 (I.ok.bs b o e).2 (I.ok.noex b o e)⟩
theorem Inv.bk (I : Inv X pins σ H s) : ∀ b o, X.base.get? b = some o → s.heap.get? b = some o := fun b o e => (I.bs b o e).1
theorem Inv.mod (I : Inv X pins σ H s) : Mod X.K X.mg X.base := I.ok.mod
theorem Inv.ia (I : Inv X pins σ H s) : X.K.In s.heap := I.ok.mod.kin.keeps I.bk
theorem Inv.nolimit (I : Inv X pins σ H s) : s.heap.NoLimit := I.ok.mod.nolimit.keeps I.bk
theorem Inv.lt (I : Inv X pins σ H s) : X.env.locals < s.heap.objs.size := let ⟨_, hn, _⟩ := I.loc; hn.lt
theorem Inv.sz (I : Inv X pins σ H s) : X.s₀.heap.objs.size ≤ s.heap.objs.size := Nat.le_trans I.ok.above (Nat.le_of_lt I.lt)
theorem Inv.E4 (I : Inv X pins σ H s) {a : Addr} (h : s.heap.objs.size ≤ a) : a ∉ X.fs := fun hb => by
  obtain ⟨_, o, ho, _⟩ := I.ok.funs.mem hb
  exact absurd (Nat.lt_of_lt_of_le (Heap.lt_size ho) (Nat.le_trans I.sz h)) (Nat.lt_irrefl _)
theorem Inv.se (I : Inv X pins σ H s) : ∀ x c, X.env.cells.lookup x = some c → c ≠ X.env.locals := fun x c e z => by
  obtain ⟨v, o, ho, hd⟩ := I.cell x c e
  obtain ⟨m, ⟨o', es, ep, eQ, sf, _⟩, _⟩ := I.loc
  rw [z, eQ] at ho; cases ho; rw [sf] at hd; cases hd
theorem Inv.funs (I : Inv X pins σ H s) : s.heap.FunFrames X.base X.outer := by
  have all : ∀ (l : List Env), (∀ b ∈ fo l, b ∈ X.fs) → X.s₀.heap.FunFrames X.base l → s.heap.FunFrames X.base l := by
    intro l
    induction l with
    | nil => intro _ _; trivial
    | cons env r ih =>
      intro hs hl
      obtain ⟨hk, ⟨L, o, hf, hn, ho, hd⟩, hr⟩ := hl
      have hL : L ∈ X.fs := hs L (by unfold fo; rw [List.filterMap_cons, hf]; exact List.mem_cons_self)
      obtain ⟨sl, e⟩ := I.base.slot L o ho (I.ok.frf L hL) hL fun z => I.ok.exfs L z hL
      exact ⟨hk, ⟨L, _, hf, hn, e, hd⟩, ih (fun b hb => hs b (by unfold fo; rw [List.filterMap_cons, hf]; exact List.mem_cons_of_mem _ hb)) hr⟩
  exact all X.outer (fun _ hb => hb) I.ok.funs
theorem Inv.stack (I : Inv X pins σ H s) : s.heap.FunFrames X.base X.stack := by
  rcases I.ok.stk with e | ⟨e, hf⟩
  · rw [e]; exact I.funs
  · rw [e]
    obtain ⟨m, hn, _⟩ := I.loc
    refine .cons (by rw [I.ok.kind]; decide) hf hn ?_ I.funs
    exact Heap.get?_none_of_le (Nat.le_trans I.ok.bsz I.ok.above)
theorem Inv.fw (I : Inv X pins σ H s) : ∀ b ∈ fo X.stack, b ∈ X.env.locals :: X.fs := fun b hb => by
  rcases I.ok.stk with e | ⟨e, hf⟩
  · rw [e] at hb; exact List.mem_cons_of_mem _ hb
  · rw [e] at hb
    unfold fo at hb
    rw [List.filterMap_cons, hf] at hb
    exact hb
theorem Inv.mG (I : Inv X pins σ H s) : ∀ b ∈ fo X.stack, H b = none := fun b hb => by
  rcases List.mem_cons.mp (I.fw b hb) with e | hb
  · rw [e]; exact I.free
  · obtain ⟨_, o, ho, _⟩ := I.ok.funs.mem hb
    exact I.base.free b o ho (I.ok.frf b hb) fun z => I.ok.exfs b z hb
theorem Inv.step {g' : Array GenState} {t' : Nat} {d' : Drawn} {ch : List Addr} (I : Inv X pins σ H s)
    (m4 : ∀ b ∈ ch, (b ∈ X.ex ∨ X.s₀.heap.objs.size ≤ b) ∧ b ≠ X.env.locals ∧ (∀ x c, X.env.cells.lookup x = some c → c ≠ b) ∧ ∀ p ∈ X.pn ++ pins, p.1 ≠ b)
    (keep : ∀ b o, b ≠ X.env.locals → b ∉ X.fs → b ∉ ch → s.heap.get? b = some o → H b = none → h'.get? b = some o)
    (slot : ∀ b o, b ≠ X.env.locals → b ∈ X.fs → b ∉ ch → s.heap.get? b = some o → H b = none → ∃ sl, h'.get? b = some { o with slots := sl }) (free : ∀ b o, b ∉ ch → s.heap.get? b = some o → H b = none → H' b = none)
    (there : ∀ b o, b ∉ ch → s.heap.get? b = some o → ∃ o', h'.get? b = some o')
    (tups : ∀ b xs, H b = some (.tup xs) → H' b = some (.tup xs)) (frzs : ∀ b o u, H b = some (.fm o u) → H' b = some (.fm o u)) (tbls : ∀ b ps, H b = some (.cE ps) → ∃ more, H' b = some (.cE (ps ++ more)))
    (ns : ∀ m, s.heap.Ns X.env.locals m → h'.Ns X.env.locals m) (hok : cw X.prog X.w H' h') (hg : Gn s.gens.size g') :
    Inv X pins σ H' { s with heap := h', gens := g', drawn := d', toks := t' } := by
  have Kc : ∀ b o, X.s₀.heap.get? b = some o → b ≠ X.env.locals := fun b o e => Nat.ne_of_lt (Nat.lt_of_lt_of_le (Heap.lt_size e) I.ok.above)
  have B6 : ∀ b o, X.s₀.heap.get? b = some o → b ∉ X.ex → b ∉ ch := fun b o e hx hb => by
    rcases (m4 b hb).1 with z | z
    · exact hx z
    · exact absurd (Nat.lt_of_lt_of_le (Heap.lt_size e) z) (Nat.lt_irrefl _)
  have cellK : ∀ x c, X.env.cells.lookup x = some c → ∀ v, s.heap.IsCell c v → h'.IsCell c v := fun x c e v ⟨o, ho, hd⟩ => by
    have xx : c ∉ ch := fun z => (m4 c z).2.2.1 x c e rfl
    by_cases hc : c ∈ X.fs
    · obtain ⟨sl, q⟩ := slot c o (I.se x c e) hc xx ho (I.freeC x c e)
      exact ⟨_, q, hd⟩
    · exact ⟨o, keep c o (I.se x c e) hc xx ho (I.freeC x c e), hd⟩
  refine ⟨I.ok, I.os, I.bare.trans hg, ⟨fun b o e n hb hx => ?_, fun b o e n hb hx => ?_, fun b o e n hx => ?_, fun b o e hx => ?_, fun b xs e => tups b xs (I.base.tups b xs e), fun b o xs e => frzs b o xs (I.base.frzs b o xs e), fun b ps e => ?_⟩, ?_, fun x c e => ?_, ?_, fun x c e => ?_, fun p hp => ?_, hok, I.len⟩
  · exact keep b o (Kc b o e) hb (B6 b o e hx) (I.base.keep b o e n hb hx) (I.base.free b o e n hx)
  · obtain ⟨sl, e1⟩ := I.base.slot b o e n hb hx
    obtain ⟨Kd, e2⟩ := slot b _ (Kc b o e) hb (B6 b o e hx) e1 (I.base.free b o e n hx)
    exact ⟨Kd, e2⟩
  · obtain ⟨o', e1⟩ := I.base.there b o e hx
    exact free b o' (B6 b o e hx) e1 (I.base.free b o e n hx)
  · obtain ⟨o', e1⟩ := I.base.there b o e hx
    exact there b o' (B6 b o e hx) e1
  · obtain ⟨m1, e1⟩ := I.base.tbls b ps e
    obtain ⟨m2, e2⟩ := tbls b _ e1
    exact ⟨m1 ++ m2, by rw [e2, Array.append_assoc]⟩
  · obtain ⟨m, hn, hl⟩ := I.loc
    refine ⟨m, ns m hn, fun i x v e1 e2 e3 => ?_⟩
    obtain ⟨u, r, l⟩ := hl i x v e1 e2 e3
    refine ⟨u, r, ?_⟩
    rcases l with l | ⟨k, c, e, z⟩
    · exact .inl l
    · exact .inr ⟨k, c, e, cellK x c e _ z⟩
  · obtain ⟨v, z⟩ := I.cell x c e
    exact ⟨v, cellK x c e v z⟩
  · obtain ⟨m, ⟨o, _, _, ho, _⟩, _⟩ := I.loc
    exact free _ o (fun z => (m4 _ z).2.1 rfl) ho I.free
  · obtain ⟨v, o, ho, hd⟩ := I.cell x c e
    exact free c o (fun z => (m4 c z).2.2.1 x c e rfl) ho (I.freeC x c e)
  · obtain ⟨e, n, ne, nf, d⟩ := I.pin p hp
    have xx : p.1 ∉ ch := fun z => (m4 p.1 z).2.2.2 p hp rfl
    exact ⟨keep p.1 p.2 ne nf xx e n, free p.1 p.2 xx e n, ne, nf, d⟩
theorem Inv.un {t' : Nat} (I : Inv X pins σ H s) (u : Un X.fs [] H H' s.heap h') (hok : cw X.prog X.w H' h') : Inv X pins σ H' { s with heap := h', toks := t' } := by
  obtain ⟨m, ⟨o, es, ep, ho, r⟩, _⟩ := id I.loc
  obtain ⟨sl, hL⟩ := u.any ho I.free (by simp)
  exact I.step (g' := s.gens) (d' := s.drawn) (ch := []) (fun _ z => nomatch z) (fun b o _ hb _ e n => u.keep b o e n hb (by simp)) (fun b o _ hb _ e n => u.slot b o e n hb (by simp)) (fun b o _ e n => u.free b o e n (by simp)) (fun b o _ e => u.there b o e (by simp)) u.tups u.frzs u.tbls (fun m' hm => by
    obtain ⟨o', E5, E6, eQ, r'⟩ := hm
    rw [ho] at eQ; cases eQ
    exact ⟨_, E5, E6, hL, r'⟩) hok I.bare.self
theorem Inv.call {g' : Array GenState} {t' : Nat} {d' : Drawn} {ch : List Addr} (I : Inv X pins σ H s) (u : Un (fo X.stack) ch H H' s.heap h') (hok : cw X.prog X.w H' h') (hg : Gn s.gens.size g')
    (m4 : ∀ b ∈ ch, (b ∈ X.ex ∨ X.s₀.heap.objs.size ≤ b) ∧ b ≠ X.env.locals ∧ (∀ x c, X.env.cells.lookup x = some c → c ≠ b) ∧ ∀ p ∈ X.pn ++ pins, p.1 ≠ b) :
    Inv X pins σ H' { s with heap := h', gens := g', drawn := d', toks := t' } := by
  obtain ⟨m, ⟨o, es, ep, ho, r⟩, _⟩ := id I.loc
  obtain ⟨sl, hL⟩ := u.any ho I.free fun z => (m4 _ z).2.1 rfl
  exact I.step (ch := ch) m4 (fun b o hL hb hc e n => u.keep b o e n (fun z => (List.mem_cons.mp (I.fw b z)).elim hL hb) hc) (fun b o _ _ hc e n => u.any e n hc) (fun b o hc e n => u.free b o e n hc) (fun b o hc e => u.there b o e hc) u.tups u.frzs u.tbls (fun m' hm => by
    obtain ⟨o', E5, E6, eQ, r'⟩ := hm
    rw [ho] at eQ; cases eQ
    exact ⟨_, E5, E6, hL, r'⟩) hok hg
theorem Inv.turned {t' : Nat} {it : Addr} (I : Inv X pins σ H s) (k : ∀ b o, b ≠ it → s.heap.get? b = some o → h'.get? b = some o) (hn : H it = none) (hL : it ≠ X.env.locals)
    (h1 : it ∈ X.ex ∨ X.s₀.heap.objs.size ≤ it) (h2 : ∀ x c, X.env.cells.lookup x = some c → c ≠ it) (h3 : ∀ p ∈ X.pn ++ pins, p.1 ≠ it) : Inv X pins σ H { s with heap := h', toks := t' } := by
  have xA : ∀ b u, H b = some u → b ≠ it := fun b u e z => by rw [z, hn] at e; cases e
  refine I.step (g' := s.gens) (d' := s.drawn) (ch := [it]) (fun b hb => ?_) (fun b o _ _ hc e _ => k b o (fun z => hc (by simp [z])) e) (fun b o _ _ hc e _ => ⟨o.slots, k b o (fun z => hc (by simp [z])) e⟩) (fun _ _ _ _ n => n)
    (fun b o hc e => ⟨o, k b o (fun z => hc (by simp [z])) e⟩) (fun _ _ e => e) (fun _ _ _ e => e) (fun b ps e => ⟨#[], by rw [e]; simp⟩) (fun m hm => ?_) (fun b u e => ?_) I.bare.self
  · have e : b = it := by simpa using hb
    subst e
    exact ⟨h1, hL, h2, h3⟩
  · obtain ⟨o, es, ep, ho, r⟩ := hm
    exact ⟨o, es, ep, k _ o (Ne.symm hL) ho, r⟩
  · refine (I.hok b u e).kc (fun c v hc q => k c v ?_ q) (fun _ q => q) fun _ _ q => q
    rcases hc with z | z
    · rw [z]; exact xA b u e
    · exact xA c _ z
theorem Inv.tok (I : Inv X pins σ H s) (t : Nat) : Inv X pins σ H { s with toks := t } := I.un (h' := s.heap) (t' := t) Un.refl I.hok
theorem Inv.kept {t' : Nat} (I : Inv X pins σ H s) (k : ∀ b u, s.heap.get? b = some u → h'.get? b = some u) : Inv X pins σ H { s with heap := h', toks := t' } := I.un (Un.kept k) (I.hok.kept k)
theorem Inv.laid {a : Addr} {o : HO} {t' : Nat} (I : Inv X pins σ H s) (k : ∀ b u, s.heap.get? b = some u → h'.get? b = some u) (hp : s.heap.objs.size ≤ a) (new : ObjOk X.prog X.w (upd H a o) h' a o) :
    Inv X pins σ (upd H a o) { s with heap := h', toks := t' } := I.un (Un.laid k hp (I.hok.fresh hp)) (I.hok.laid k hp new)
theorem Inv.write {x e : Addr} {o : HO} {t' : Nat} (I : Inv X pins σ H s) (mu : xt (H x)) (he : e = x ∨ H e = some (.own x)) (k : ∀ b u, b ≠ e → s.heap.get? b = some u → h'.get? b = some u) (vf : ∃ u, h'.get? e = some u)
    (new : ObjOk X.prog X.w (upd H x o) h' x o) : Inv X pins σ (upd H x o) { s with heap := h', toks := t' } := I.un (Un.write mu he k vf) (I.hok.write mu he k vf new)
theorem Inv.pJ {pins' : List (Addr × Obj)} (I : Inv X pins σ H s) (h : ∀ p ∈ pins', s.heap.get? p.1 = some p.2 ∧ H p.1 = none ∧ p.1 ≠ X.env.locals ∧ p.1 ∉ X.fs ∧ ∀ v, p.2.data ≠ .cell v) : Inv X pins' σ H s :=
  ⟨I.ok, I.os, I.bare, I.base, I.loc, I.cell, I.free, I.freeC, fun p hp => (List.mem_append.mp hp).elim (fun z => I.pin p (List.mem_append_left _ z)) (h p), I.hok, I.len⟩
theorem sg {N : List Str} (hN : N.Nodup) {i j : Nat} {x : Str} (a : N[i]? = some x) (b : N[j]? = some x) : i = j := by
  obtain ⟨h1, e1⟩ := List.getElem?_eq_some_iff.mp a
  obtain ⟨h2, e2⟩ := List.getElem?_eq_some_iff.mp b
  exact (List.getElem_inj hN).mp (e1.trans e2.symm)
theorem store_ok2 {M : Model} {A : Around} {E : Value → Shared → Prop} {i : Nat} {x : Str} {v : V} {u : Value} {Q : Unit → Shared → Prop} (I : Inv X pins σ H s) (hN : X.N.Nodup) (hi : X.N[i]? = some x) (hx : Loc X.env.scope x) (r : RelV v u)
    (h : ∀ s', Inv X pins (σ.set i (some v)) H s' → (∃ a, Heap.SameBut a s.heap s'.heap ∧ (a = X.env.locals ∨ X.env.cells.lookup x = some a)) → Q () s') (hf : X.fn x = true ∨ X.env.scope.names.lookup x = some .local := by first | exact .inl rfl | exact .inr rfl | assumption) : wpAny M A (storeName X.env x u) Q E s := by
  obtain ⟨m, hn, hl⟩ := id I.loc
  have Ls : (X.env.scope.kind == .class || (X.env.scope.kind == .module && X.env.locals != X.env.globals)) = false := by rw [I.ok.kind]; rfl
  have E7 : i < σ.length := by rw [I.len]; exact (List.getElem?_eq_some_iff.mp hi).1
  have se := I.se
  have tracked : ∀ {a : Addr} {h' : Heap}, (∃ o, s.heap.get? a = some o ∧ H a = none) → Heap.SameBut a s.heap h' → cw X.prog X.w H h' := fun {a h'} ha hs b ob e => by
    obtain ⟨_, _, B7⟩ := ha
    refine (I.hok b ob e).kc (fun c w' hc q => (hs.2 c ?_).trans q) (fun _ q => q) fun _ _ q => q
    rintro rfl
    rcases hc with rfl | hc
    · rw [B7] at e; cases e
    · rw [B7] at hc; cases hc
  rcases hx with hk | hk
  · refine wpAny_storeName_local hk hn (fun h' E8 hs => ?_) Ls
    obtain ⟨oL, _, _, xB, _⟩ := id hn
    refine h _ ⟨I.ok, I.os, I.bare, ⟨fun b o e n hb hx => ?_, fun b o e n hb hx => ?_, I.base.free, fun b o e hx => ?_, I.base.tups, I.base.frzs, I.base.tbls⟩, ⟨_, E8, fun j y v' e1 e2 e3 => ?_⟩, fun y c e => ?_, I.free, I.freeC, fun p hp => ?_, tracked ⟨oL, xB, I.free⟩ hs, by simpa using I.len⟩ ⟨_, hs, .inl rfl⟩
    · exact (hs.2 b (Nat.ne_of_lt (Nat.lt_of_lt_of_le (Heap.lt_size e) I.ok.above))).trans (I.base.keep b o e n hb hx)
    · obtain ⟨sl, e1⟩ := I.base.slot b o e n hb hx
      exact ⟨sl, (hs.2 b (Nat.ne_of_lt (Nat.lt_of_lt_of_le (Heap.lt_size e) I.ok.above))).trans e1⟩
    · obtain ⟨o', e1⟩ := I.base.there b o e hx
      exact ⟨o', (hs.2 b (Nat.ne_of_lt (Nat.lt_of_lt_of_le (Heap.lt_size e) I.ok.above))).trans e1⟩
    · by_cases hj : j = i
      · subst hj
        rw [hi] at e1; cases e1
        rw [List.getElem?_set_self E7] at e2
        cases e2
        exact ⟨u, r, .inl ⟨hk, by simp⟩⟩
      · rw [List.getElem?_set_ne (Ne.symm hj)] at e2
        obtain ⟨u', r', q⟩ := hl j y v' e1 e2 e3
        refine ⟨u', r', ?_⟩
        rcases q with ⟨k, e⟩ | ⟨k, c, e, z⟩
        · refine .inl ⟨k, ?_⟩
          have : y ≠ x := fun e => hj (sg hN e1 (e ▸ hi))
          simp [this, e]
        · exact .inr ⟨k, c, e, z.sameBut hs (se y c e)⟩
    · obtain ⟨w', z⟩ := I.cell y c e
      exact ⟨w', z.sameBut hs (se y c e)⟩
    · obtain ⟨e, n, ne, nf, d⟩ := I.pin p hp
      exact ⟨(hs.2 p.1 ne).trans e, n, ne, nf, d⟩
  · have E9 : X.fn x = true := by
      rcases hf with z | z
      · exact z
      · rw [z] at hk; cases hk
    obtain ⟨c, hc⟩ := I.ok.has x (.inl hk)
    obtain ⟨w', z⟩ := I.cell x c hc
    refine wpAny_storeName_cell I.ok.kind hk hc z (fun h' B8 hs => ?_)
    obtain ⟨oc, Ke, Lv⟩ := id z
    refine h { s with heap := h' } ⟨I.ok, I.os, I.bare, ⟨fun b o e n hb hx => ?_, fun b o e n hb hx => ?_, I.base.free, fun b o e hx => ?_, I.base.tups, I.base.frzs, I.base.tbls⟩, ⟨m, hn.sameBut hs (Ne.symm (se x c hc)), fun j y v' e1 e2 e3 => ?_⟩, fun y c' e => ?_, I.free, I.freeC, fun p hp => ?_, tracked ⟨oc, Ke, I.freeC x c hc⟩ hs, by simpa using I.len⟩ ⟨c, hs, .inr hc⟩
    · exact (hs.2 b (Nat.ne_of_lt (Nat.lt_of_lt_of_le (Heap.lt_size e) (I.ok.cab x c E9 hc)))).trans (I.base.keep b o e n hb hx)
    · obtain ⟨sl, e1⟩ := I.base.slot b o e n hb hx
      exact ⟨sl, (hs.2 b (Nat.ne_of_lt (Nat.lt_of_lt_of_le (Heap.lt_size e) (I.ok.cab x c E9 hc)))).trans e1⟩
    · obtain ⟨o', e1⟩ := I.base.there b o e hx
      exact ⟨o', (hs.2 b (Nat.ne_of_lt (Nat.lt_of_lt_of_le (Heap.lt_size e) (I.ok.cab x c E9 hc)))).trans e1⟩
    · by_cases hj : j = i
      · subst hj
        rw [hi] at e1; cases e1
        rw [List.getElem?_set_self E7] at e2
        cases e2
        exact ⟨u, r, .inr ⟨.inl hk, c, hc, B8⟩⟩
      · rw [List.getElem?_set_ne (Ne.symm hj)] at e2
        obtain ⟨u', r', q⟩ := hl j y v' e1 e2 e3
        refine ⟨u', r', ?_⟩
        rcases q with q | ⟨k, c', e, z'⟩
        · exact .inl q
        · refine .inr ⟨k, c', e, z'.sameBut hs ?_⟩
          rintro rfl
          exact hj (sg hN e1 (I.ok.inj _ _ _ e hc ▸ hi))
    · by_cases Kf : c' = c
      · subst Kf; exact ⟨_, B8⟩
      · obtain ⟨w2, z2⟩ := I.cell y c' e
        exact ⟨w2, z2.sameBut hs Kf⟩
    · obtain ⟨e, n, ne, nf, d⟩ := I.pin p hp
      refine ⟨(hs.2 p.1 ?_).trans e, n, ne, nf, d⟩
      intro q
      rw [q, Ke] at e
      have q' : oc = p.2 := Option.some.inj e
      exact d w' (by rw [← q']; exact Lv)
theorem sh {M : Model} {A : Around} {E : Value → Shared → Prop} {i : Nat} {x : Str} {v : V} {u : Value} {Q : Unit → Shared → Prop} (I : Inv X pins σ H s) (hN : X.N.Nodup) (hi : X.N[i]? = some x) (hx : Loc X.env.scope x) (r : RelV v u)
    (h : ∀ s', Inv X pins (σ.set i (some v)) H s' → Q () s') (hf : X.fn x = true ∨ X.env.scope.names.lookup x = some .local := by first | exact .inl rfl | exact .inr rfl | assumption) : wpAny M A (storeName X.env x u) Q E s :=
  store_ok2 I hN hi hx r (fun s' I' _ => h s' I') hf
theorem Inv.oh {s' : Shared} {ch : List Addr} (I : Inv X pins σ H s) (ho : s'.os = s.os) (u : Un (fo X.stack) ch H H' s.heap s'.heap) (hok : cw X.prog X.w H' s'.heap) (hg : Gn s.gens.size s'.gens)
    (m4 : ∀ b ∈ ch, (b ∈ X.ex ∨ X.s₀.heap.objs.size ≤ b) ∧ b ≠ X.env.locals ∧ (∀ x c, X.env.cells.lookup x = some c → c ≠ b) ∧ ∀ p ∈ X.pn ++ pins, p.1 ≠ b) : Inv X pins σ H' s' := by
  obtain ⟨h', g', d', t', o'⟩ := s'
  have e : o' = s.os := ho
  subst e
  exact I.call (g' := g') (t' := t') (d' := d') u hok hg m4
end
noncomputable abbrev XK := Value → Option Addr → Hp → Prop
noncomputable abbrev St := List (Option V)
noncomputable abbrev VK := V → Hp → Prop
noncomputable abbrev TE := St → Hp → VK → Prop
noncomputable abbrev TT := St → Hp → (Bool → Hp → Prop) → Prop
noncomputable abbrev TA := St → Hp → (List V → Hp → Prop) → Prop
structure Ends where
  nx : St → Hp → Prop
  rt : VK
  bk : St → Hp → Prop := fun _ _ => False
  ct : St → Hp → Prop := fun _ _ => False
noncomputable abbrev TS := Ends → St → Hp → Prop
noncomputable def EP (X : Cx) (pins : List (Addr × Obj)) (σ : St) (Q : VK) (u : Value) (s' : Shared) : Prop := ∃ v H', Inv X pins σ H' s' ∧ RelV v u ∧ Q v H'
noncomputable def TP (X : Cx) (pins : List (Addr × Obj)) (σ : St) (Q : Bool → Hp → Prop) (b : Bool) (s' : Shared) : Prop := ∃ H', Inv X pins σ H' s' ∧ Q b H'
noncomputable def AP (X : Cx) (pins : List (Addr × Obj)) (σ : St) (Q : List V → Hp → Prop) (us : List Value) (s' : Shared) : Prop := ∃ vs H', Inv X pins σ H' s' ∧ Vals vs us ∧ Q vs H'
noncomputable def SP (X : Cx) (pins : List (Addr × Obj)) (D : Ends) (f : Flow) (s' : Shared) : Prop :=
  match f with
  | .next => ∃ aK H', Inv X pins aK H' s' ∧ D.nx aK H'
  | .brk => ∃ aK H', Inv X pins aK H' s' ∧ D.bk aK H'
  | .cont => ∃ aK H', Inv X pins aK H' s' ∧ D.ct aK H'
  | .ret u => ∃ v aK H', Inv X pins aK H' s' ∧ RelV v u ∧ D.rt v H'
structure PE (X : Cx) (e : Expr) (t : TE) : Prop where
  run : ∀ (pins : List (Addr × Obj)) (s : Shared) (σ : St) (H : Hp) (Q : VK), Inv X pins σ H s → t σ H Q → wpAny (model X.prog X.w) X.A (eval e X.env) (EP X pins σ Q) X.xe s
instance {X : Cx} {e : Expr} {t : TE} : CoeFun (PE X e t) (fun _ => ∀ (pins : List (Addr × Obj)) (s : Shared) (σ : St) (H : Hp) (Q : VK), Inv X pins σ H s → t σ H Q → wpAny (model X.prog X.w) X.A (eval e X.env) (EP X pins σ Q) X.xe s) := ⟨PE.run⟩
structure PT (X : Cx) (e : Expr) (t : TT) : Prop where
  run : ∀ (pins : List (Addr × Obj)) (s : Shared) (σ : St) (H : Hp) (Q : Bool → Hp → Prop), Inv X pins σ H s → t σ H Q → wpAny (model X.prog X.w) X.A (isTrue e X.env (eval e X.env)) (TP X pins σ Q) X.xe s
instance {X : Cx} {e : Expr} {t : TT} : CoeFun (PT X e t) (fun _ => ∀ (pins : List (Addr × Obj)) (s : Shared) (σ : St) (H : Hp) (Q : Bool → Hp → Prop), Inv X pins σ H s → t σ H Q → wpAny (model X.prog X.w) X.A (isTrue e X.env (eval e X.env)) (TP X pins σ Q) X.xe s) := ⟨PT.run⟩
noncomputable def PW (X : Cx) (e : Expr) (t : TT) : Prop :=
  ∀ (whole : Sem Value) (pins : List (Addr × Obj)) (s : Shared) (σ : St) (H : Hp) (Q : Bool → Hp → Prop), Inv X pins σ H s → t σ H Q → wpAny (model X.prog X.w) X.A (isTrue e X.env whole) (TP X pins σ Q) X.xe s
theorem PW.pt {X : Cx} {e : Expr} {t : TT} (h : PW X e t) : PT X e t := ⟨h _⟩
structure PA (X : Cx) (es : List Expr) (t : TA) : Prop where
  run : ∀ (pos : Pos) (pins : List (Addr × Obj)) (s : Shared) (σ : St) (H : Hp) (Q : List V → Hp → Prop), Inv X pins σ H s → t σ H Q → wpAny (model X.prog X.w) X.A (spliced (backTo pos (starEach es X.env))) (AP X pins σ Q) X.xe s
instance {X : Cx} {es : List Expr} {t : TA} : CoeFun (PA X es t) (fun _ => ∀ (pos : Pos) (pins : List (Addr × Obj)) (s : Shared) (σ : St) (H : Hp) (Q : List V → Hp → Prop), Inv X pins σ H s → t σ H Q → wpAny (model X.prog X.w) X.A (spliced (backTo pos (starEach es X.env))) (AP X pins σ Q) X.xe s) := ⟨PA.run⟩
structure PS (X : Cx) (st : Stmt) (t : TS) : Prop where
  run : ∀ (pins : List (Addr × Obj)) (s : Shared) (σ : St) (H : Hp) (D : Ends), Inv X pins σ H s → t D σ H → wpAny (model X.prog X.w) X.A (exec st X.env) (SP X pins D) X.xe s
instance {X : Cx} {st : Stmt} {t : TS} : CoeFun (PS X st t) (fun _ => ∀ (pins : List (Addr × Obj)) (s : Shared) (σ : St) (H : Hp) (D : Ends), Inv X pins σ H s → t D σ H → wpAny (model X.prog X.w) X.A (exec st X.env) (SP X pins D) X.xe s) := ⟨PS.run⟩
structure fU (X : Cx) (st : List Stmt) (t : TS) : Prop where
  run : ∀ (pins : List (Addr × Obj)) (s : Shared) (σ : St) (H : Hp) (D : Ends), Inv X pins σ H s → t D σ H → wpAny (model X.prog X.w) X.A (execs st X.env) (SP X pins D) X.xe s
instance {X : Cx} {st : List Stmt} {t : TS} : CoeFun (fU X st t) (fun _ => ∀ (pins : List (Addr × Obj)) (s : Shared) (σ : St) (H : Hp) (D : Ends), Inv X pins σ H s → t D σ H → wpAny (model X.prog X.w) X.A (execs st X.env) (SP X pins D) X.xe s) := ⟨fU.run⟩
theorem thn {α : Type} {t : Sem α} {Q Q' : α → Shared → Prop} {M : Model} {A : Around} {E : Value → Shared → Prop} {s : Shared} (h : wpAny M A t Q E s) (hQ : ∀ a s, Q a s → Q' a s) : wpAny M A t Q' E s := wpAny_mono h hQ fun _ _ x => x
section
variable {X : Cx}
theorem bin {a b : Expr} {ta tb : TE} (ha : PE X a ta) (hb : PE X b tb) {pins : List (Addr × Obj)} {s : Shared} {σ : St} {H : Hp} {R : V → V → Hp → Prop} (I : Inv X pins σ H s) (h : ta σ H fun x H1 => tb σ H1 fun y H2 => R x y H2)
    {α : Type} {Q : α → Shared → Prop} {f : Value → Value → Sem α}
    (hf : ∀ v u s2 x y H2, Inv X pins σ H2 s2 → RelV x v → RelV y u → R x y H2 → wpAny (model X.prog X.w) X.A (f v u) Q X.xe s2) :
    wpAny (model X.prog X.w) X.A (eval a X.env) (fun v aE => wpAny (model X.prog X.w) X.A (eval b X.env) (fun u jN => wpAny (model X.prog X.w) X.A (f v u) Q X.xe jN) X.xe aE) X.xe s := by
  refine thn (ha pins s σ H _ I h) fun v s1 ⟨x, H1, I1, r1, q1⟩ => ?_
  refine thn (hb pins s1 σ H1 _ I1 q1) fun u s2 ⟨y, H2, I2, r2, q2⟩ => ?_
  exact hf v u s2 x y H2 I2 r1 r2 q2
noncomputable def Fb (i : Nat) : TE := fun σ H Q => ∃ v, σ[i]? = some (some v) ∧ Q v H
noncomputable def tC (v : V) : TE := fun _ H Q => Q v H
theorem xC {i : Nat} {x : Str} {pos : Pos} (hN : X.N[i]? = some x) (hv : qp X.env.scope x) (hd : (x == ("__debug__" : Str)) = false := by decide) (gd : (x == ("__classdict__" : Str)) = false := by decide) : PE X (.Name x pos) (Fb i) := by
  refine ⟨?_⟩
  intro pins s σ H Q I h
  obtain ⟨v, e, h⟩ := h
  obtain ⟨m, hn, hl⟩ := I.loc
  obtain ⟨u, r, l⟩ := hl i x v hN e hv
  have fin : EP X pins σ Q u s := ⟨v, H, I, r, h⟩
  rcases l with ⟨hk, hm⟩ | ⟨hk, c, hc, rN⟩
  · exact wpAny_Name (wpAny_loadName_local I.ok.kind hk hn hm fin) hd
  · rcases hk with hk | hk
    · exact wpAny_Name (wpAny_loadName_cell I.ok.kind hk hc rN fin) hd
    · exact wpAny_Name (wpAny_loadName_free I.ok.kind hk hc rN fin gd) hd
theorem Fc {i j pos} : PE X (.Constant (.int i) j pos) (tC (.int i)) := ⟨fun _ _ _ H _ I h => wpAny_Constant_int ⟨.int i, H, I.tok _, ⟨_, rfl⟩, h⟩⟩
theorem IP {b j pos} : PE X (.Constant (.bool b) j pos) (tC (.bl b)) := ⟨fun _ _ _ H _ I h => Constant_bool ⟨.bl b, H, I, rfl, h⟩⟩
theorem Fd {j pos} : PE X (.Constant .none j pos) (tC .au) := ⟨fun _ _ _ H _ I h => Constant_none ⟨.au, H, I, rfl, h⟩⟩
theorem Fe {x j pos} : PE X (.Constant (.str x) j pos) (tC (.str x)) := ⟨fun _ _ _ H _ I h => Calls.Constant_str ⟨.str x, H, I.tok _, ⟨_, rfl⟩, h⟩⟩
noncomputable def Gl (X : Cx) (x : Str) : Prop := X.env.kindOf x = some .globalImplicit
theorem pK {E : Value → Shared → Prop} {pins : List (Addr × Obj)} {s : Shared} {σ : St} {H : Hp} {x : Str} {u : Value} {pos : Pos} {Q : Value → Shared → Prop} (I : Inv X pins σ H s) (hg : Gl X x) (hm : X.mg x = some u) (h : Q u s)
    (hd : (x == ("__debug__" : Str)) = false := by decide) : wpAny (model X.prog X.w) X.A (eval (.Name x pos) X.env) Q E s :=
  Calls.Name_function_global I.ok.kind hg (Calls.loadGlobal_global (by rw [I.ok.glob]; exact I.mod.glob.keeps I.bk) hm h) hd
theorem fx {E : Value → Shared → Prop} {pins : List (Addr × Obj)} {s : Shared} {σ : St} {H : Hp} {x : Str} {u : Value} {pos : Pos} {Q : Value → Shared → Prop} (I : Inv X pins σ H s) (hg : Gl X x) (hm : X.mg x = none) (hv : bootBuiltins x = some u) (h : Q u s)
    (hn : x ≠ "__name__" := by decide) (hd : (x == ("__debug__" : Str)) = false := by decide) : wpAny (model X.prog X.w) X.A (eval (.Name x pos) X.env) Q E s := by
  obtain ⟨mb, h1, h2⟩ := I.mod.blt
  exact Calls.Name_function_global I.ok.kind hg (Calls.loadGlobal_builtin (by rw [I.ok.glob]; exact I.mod.glob.keeps I.bk) hm (by rw [I.ok.blt]; exact h1.keeps I.bk) ((h2 x hn).trans hv) h) hd
theorem Dk {x : Str} {v : V} {u : Value} {pos : Pos} (hg : Gl X x) (hm : X.mg x = some u) (r : RelV v u) (hd : (x == ("__debug__" : Str)) = false := by decide) : PE X (.Name x pos) (tC v) := ⟨fun _ _ _ H _ I h => pK I hg hm ⟨v, H, I, r, h⟩ hd⟩
theorem Dl {x : Str} {v : V} {u : Value} {pos : Pos} (hg : Gl X x) (hm : X.mg x = none) (hv : bootBuiltins x = some u) (r : RelV v u) (hn : x ≠ "__name__" := by decide) (hd : (x == ("__debug__" : Str)) = false := by decide) : PE X (.Name x pos) (tC v) := ⟨fun _ _ _ H _ I h => fx I hg hm hv ⟨v, H, I, r, h⟩ hn hd⟩
variable {a b : Expr} {ta tb : TE} {pos : Pos}
noncomputable def PC (X : Cx) (op : CmpOp) (a b : Expr) (t : TE) : Prop :=
  ∀ (pins : List (Addr × Obj)) (s : Shared) (σ : St) (H : Hp) (Q : VK), Inv X pins σ H s → t σ H Q →
    wpAny (model X.prog X.w) X.A (eval a X.env) (fun v aE => wpAny (model X.prog X.w) X.A (eval b X.env) (fun u jN => wpAny (model X.prog X.w) X.A (compareOp op v u) (EP X pins σ Q) X.xe jN) X.xe aE) X.xe s
theorem Ag (b : Expr) {op : CmpOp} (h : op ≠ .In) (h2 : op ≠ .NotIn) : behindInMarks op b = false := by
  have e1 : (op == CmpOp.In) = false := by cases op <;> first | rfl | exact absurd rfl h
  have e2 : (op == CmpOp.NotIn) = false := by cases op <;> first | rfl | exact absurd rfl h2
  cases b <;> simp [behindInMarks, e1, e2]
noncomputable def tB (t : TE) : TT := fun σ H Q => t σ H fun x H1 => ∃ c, x = .bl c ∧ Q c H1
theorem MI {op : CmpOp} {t : TE} (h : PC X op a b t) (h1 : behindInMarks op b = false := by first | exact Ag _ (by decide) (by decide) | rfl) : PT X (.Compare a [op] [b] pos) (tB t) := by
  refine ⟨?_⟩
  intro pins s σ H Q I hw
  refine wpAny_isTrue_Compare1 (thn (h pins s σ H _ I hw) fun v s1 h1 => thn h1 fun u s2 h2 => thn h2 fun c s3 ⟨x, H1, I1, r1, q1⟩ => ?_) h1
  obtain ⟨d, rfl, q⟩ := q1
  cases r1
  exact wpAny_truthy_bool ⟨H1, I1, q⟩
theorem Ff {e : Expr} {t : TE} (h : PE X e t) (he : ∀ whole, isTrue e X.env whole = (do let v ← whole; standAt e.pos; holding [v] (truthy v)) := by intro _; rfl) : PT X e (tB t) := by
  refine ⟨?_⟩
  intro pins s σ H Q I hw
  refine isTrue_plain (thn (h pins s σ H _ I hw) fun v s1 ⟨x, H1, I1, r1, q1⟩ => ?_) (he _)
  obtain ⟨d, rfl, q⟩ := q1
  cases r1
  exact wpAny_truthy_bool ⟨H1, I1, q⟩
variable {tA oi : TT} {rest : List Expr}
noncomputable def Lw (t u : TT) : TT := fun σ H Q => t σ H fun c H1 => if c = true then u σ H1 Q else Q false H1
noncomputable def MJ (t u : TT) : TT := fun σ H Q => t σ H fun c H1 => if c = true then Q true H1 else u σ H1 Q
noncomputable def Lx (t : TT) : TT := fun σ H Q => t σ H fun c H1 => Q (!c) H1
theorem Dm (ha : PT X a tA) : PW X (.BoolOp .And [a] pos) tA := by
  intro wh pins s σ H Q I h
  refine isTrue_and (thn (ha pins s σ H Q I h) fun c s1 e => ?_)
  cases c with
  | true => exact isTrue_and_nil e
  | false => exact e
theorem Fg (ha : PT X a tA) : PW X (.BoolOp .Or [a] pos) tA := by
  intro wh pins s σ H Q I h
  refine isTrue_or (thn (ha pins s σ H Q I h) fun c s1 e => ?_)
  cases c with
  | false => exact isTrue_or_nil e
  | true => exact e
theorem Fh (ha : PT X a tA) (hb : PW X (.BoolOp .And (b :: rest) pos) oi) : PW X (.BoolOp .And (a :: b :: rest) pos) (Lw tA oi) := by
  intro wh pins s σ H Q I h
  refine isTrue_and (thn (ha pins s σ H _ I h) fun c s1 ⟨H1, I1, q1⟩ => ?_)
  cases c with
  | true => exact hb wh pins s1 σ H1 Q I1 q1
  | false => exact ⟨H1, I1, q1⟩
theorem IQ (ha : PT X a tA) (hb : PW X (.BoolOp .Or (b :: rest) pos) oi) : PW X (.BoolOp .Or (a :: b :: rest) pos) (MJ tA oi) := by
  intro wh pins s σ H Q I h
  refine isTrue_or (thn (ha pins s σ H _ I h) fun c s1 ⟨H1, I1, q1⟩ => ?_)
  cases c with
  | true => exact ⟨H1, I1, q1⟩
  | false => exact hb wh pins s1 σ H1 Q I1 q1
theorem Fi (ha : PT X a tA) : PT X (.UnaryOp .Not a pos) (Lx tA) := by
  refine ⟨?_⟩
  intro pins s σ H Q I h
  exact isTrue_not (ha pins s σ H (fun c H1 => Q (!c) H1) I h)
noncomputable def IU (ta tb : TE) : TE := fun σ H Q => ta σ H fun x H1 => ∃ c, x = .bl c ∧ if c = true then tb σ H1 Q else Q (.bl false) H1
noncomputable def IV (ta : TE) : TE := fun σ H Q => ta σ H fun x H1 => ∃ c, x = .bl c ∧ Q (.bl (!c)) H1
theorem Fj {op} {t : TE} (h : PE X a t) : PE X (.BoolOp op [a] pos) t := ⟨fun pins s σ H Q I hw => BoolOp_one (h pins s σ H Q I hw)⟩
theorem Fl (ha : PE X a ta) (hb : PE X (.BoolOp .And (b :: rest) pos) tb) : PE X (.BoolOp .And (a :: b :: rest) pos) (IU ta tb) := by
  refine ⟨?_⟩
  intro pins s σ H Q I h
  refine BoolOp_and (thn (ha pins s σ H _ I h) fun v s1 ⟨x, H1, I1, r1, q1⟩ => ?_)
  obtain ⟨c, rfl, q1⟩ := q1
  cases r1
  refine wpAny_truthy_bool ?_
  cases c with
  | true => exact hb pins s1 σ H1 Q I1 q1
  | false => exact ⟨.bl false, H1, I1, rfl, q1⟩
theorem Fm (ha : PE X a ta) : PE X (.UnaryOp .Not a pos) (IV ta) := by
  refine ⟨?_⟩
  intro pins s σ H Q I h
  refine UnaryOp_ (thn (ha pins s σ H _ I h) fun v s1 ⟨x, H1, I1, r1, q1⟩ => ?_)
  obtain ⟨c, rfl, q1⟩ := q1
  cases r1
  exact not_of (wpAny_truthy_bool ⟨.bl (!c), H1, I1, rfl, q1⟩)
noncomputable def MK (t : TT) (ta tb : TE) : TE := fun σ H Q => t σ H fun c H1 => if c = true then ta σ H1 Q else tb σ H1 Q
theorem Ah {c : Expr} (hc : PT X c tA) (ha : PE X a ta) (hb : PE X b tb) : PE X (.IfExp c a b pos) (MK tA ta tb) := by
  refine ⟨?_⟩
  intro pins s σ H Q I h
  refine wpAny_IfExp (thn (hc pins s σ H _ I h) fun d s1 ⟨H1, I1, q1⟩ => ?_)
  cases d with
  | true => exact ha pins s1 σ H1 Q I1 q1
  | false => exact hb pins s1 σ H1 Q I1 q1
end
noncomputable def bH (K : PySem.W.Frag) (H : Hp) (a : Addr) (xs : List V) : Prop :=
  Rd H a (.lst xs) ∨
    ∃ (o : Obj) (its : Array Value) (n : Nat), K.lookup a = some o ∧ o.cls = .type "list" ∧ o.dict = none ∧ o.data = .seq its n ∧ its.size ≤ sizeLine ∧ Vals xs its.toList
noncomputable def cN (K : PySem.W.Frag) (H : Hp) (a : Addr) (xs : List V) : Prop :=
  Rd H a (.tup xs) ∨
    ∃ (o : Obj) (its : Array Value) (n : Nat), K.lookup a = some o ∧ o.cls = .type "tuple" ∧ o.data = .seq its n ∧ its.size ≤ sizeLine ∧ Vals xs its.toList
noncomputable def Ly : Value → Option V
  | .none => some .au
  | .bool b => some (.bl b)
  | .int i _ => some (.int i)
  | .str x _ => some (.str x)
  | .bytes b _ => some (.iT b)
  | .float b _ => some (.ve b)
  | .ref a => some (.ref a)
  | .type n => some (.ty n)
  | _ => none
theorem RelV.abs {x : V} {u : Value} (r : RelV x u) : Ly u = some x := by
  cases x with
  | au => cases r; rfl
  | bl _ => cases r; rfl
  | int _ => obtain ⟨t, rfl⟩ := r; rfl
  | str _ => obtain ⟨t, rfl⟩ := r; rfl
  | iT _ => obtain ⟨t, rfl⟩ := r; rfl
  | ve _ => obtain ⟨t, rfl⟩ := r; rfl
  | ref _ => cases r; rfl
  | ty _ => cases r; rfl
theorem RelV.inj {x y : V} {u : Value} (r : RelV x u) (q : RelV y u) : x = y := Option.some.inj (r.abs.symm.trans q.abs)
theorem Vals.inj : ∀ {xs ys : List V} {us : List Value}, Vals xs us → Vals ys us → xs = ys
  | _, _, _, .nil, .nil => rfl
  | _, _, _, .cons r t, .cons r' t' => by rw [r.inj r', Vals.inj t t']
section
variable {X : Cx} {pins : List (Addr × Obj)} {σ : St} {H : Hp} {s : Shared} {a : Addr} {xs ys : List V}
theorem bH.of {K : PySem.W.Frag} (h : H a = some (.lst xs)) : bH K H a xs := .inl (.inl h)
theorem cN.of {K : PySem.W.Frag} (h : H a = some (.tup xs)) : cN K H a xs := .inl (.inl h)
theorem Inv.list (I : Inv X pins σ H s) (h : bH X.K H a xs) : ∃ its : List Value, Vals xs its ∧ PlainL s.heap a its.toArray ∧ xs.length ≤ sizeLine := by
  rcases h with h | ⟨o, its, n, hk, hc, hd, hs, hz, r⟩
  · obtain ⟨z, its, n, r, e⟩ := h.ok I.hok
    exact ⟨its, r, ⟨_, n, e, rfl, rfl, rfl⟩, z⟩
  · refine ⟨its.toList, r, ⟨o, n, I.ia a o hk, hc, hd, by simpa using hs⟩, ?_⟩
    have e := r.length
    simp only [Array.length_toList] at e
    omega
theorem Inv.tuple (I : Inv X pins σ H s) (h : cN X.K H a xs) : ∃ its : List Value, Vals xs its ∧ IsTup s.heap a its.toArray ∧ xs.length ≤ sizeLine := by
  rcases h with h | ⟨o, its, n, hk, hc, hs, hz, r⟩
  · obtain ⟨z, its, r, p⟩ := h.ok I.hok
    exact ⟨its, r, kb.tup p, z⟩
  · refine ⟨its.toList, r, ⟨o, I.ia a o hk, hc, n, by simpa using hs⟩, ?_⟩
    have e := r.length
    simp only [Array.length_toList] at e
    omega
theorem Inv.si (I : Inv X pins σ H s) (h : bH X.K H a xs) (h' : bH X.K H a ys) : xs = ys := by
  obtain ⟨its, r, ⟨o, n, e, _, _, d⟩, _⟩ := I.list h
  obtain ⟨its', r', ⟨o', n', e', _, _, d'⟩, _⟩ := I.list h'
  rw [e] at e'; cases e'
  rw [d] at d'
  injection d' with d1 _
  have : its = its' := by simpa using congrArg Array.toList d1
  subst this
  exact r.inj r'
theorem Inv.qt (I : Inv X pins σ H s) (h : cN X.K H a xs) (h' : cN X.K H a ys) : xs = ys := by
  obtain ⟨its, r, ⟨o, e, _, n, d⟩, _⟩ := I.tuple h
  obtain ⟨its', r', ⟨o', e', _, n', d'⟩, _⟩ := I.tuple h'
  rw [e] at e'; cases e'
  rw [d] at d'
  injection d' with d1 _
  have : its = its' := by simpa using congrArg Array.toList d1
  subst this
  exact r.inj r'
end
noncomputable abbrev Cx.jO (X : Cx) (E : Value → Shared → Prop) : Cx := { X with xe := E }
noncomputable abbrev Cx.xD (X : Cx) : Cx := X.jO fun _ _ => False
theorem Cx.Ok.jO {X : Cx} (ok : X.Ok) (E : Value → Shared → Prop) : (X.jO E).Ok :=
  ⟨ok.mod, ok.kind, ok.glob, ok.blt, ok.above, ok.inj, ok.has, ok.cab, ok.hd, ok.frames, ok.stk, ok.exf, ok.bs, ok.bsz, ok.noex, ok.exfs, ok.funs, ok.frf⟩
theorem Cx.Ok.ib {X : Cx} {E : Value → Shared → Prop} (ok : (X.jO E).Ok) : X.Ok :=
  ⟨ok.mod, ok.kind, ok.glob, ok.blt, ok.above, ok.inj, ok.has, ok.cab, ok.hd, ok.frames, ok.stk, ok.exf, ok.bs, ok.bsz, ok.noex, ok.exfs, ok.funs, ok.frf⟩
section
variable {X : Cx} {pins : List (Addr × Obj)} {σ : St} {H : Hp} {s : Shared} {E : Value → Shared → Prop}
theorem Inv.jO (I : Inv X pins σ H s) (E : Value → Shared → Prop) : Inv (X.jO E) pins σ H s := ⟨I.ok.jO E, I.os, I.bare, I.base, I.loc, I.cell, I.free, I.freeC, I.pin, I.hok, I.len⟩
theorem Inv.ib (I : Inv (X.jO E) pins σ H s) : Inv X pins σ H s := ⟨I.ok.ib, I.os, I.bare, I.base, I.loc, I.cell, I.free, I.freeC, I.pin, I.hok, I.len⟩
theorem SP.ib {D : Ends} {f : Flow} {s' : Shared} (h : SP (X.jO E) pins D f s') : SP X pins D f s' := by
  cases f with
  | next => obtain ⟨aK, H', I, q⟩ := h; exact ⟨aK, H', I.ib, q⟩
  | brk => obtain ⟨aK, H', I, q⟩ := h; exact ⟨aK, H', I.ib, q⟩
  | cont => obtain ⟨aK, H', I, q⟩ := h; exact ⟨aK, H', I.ib, q⟩
  | ret u => obtain ⟨v, aK, H', I, r, q⟩ := h; exact ⟨v, aK, H', I.ib, r, q⟩
theorem fU.xD {st : List Stmt} {t : TS} (h : fU X.xD st t) : fU X st t := ⟨fun pins s σ H D I hw =>
  wpAny_mono (h pins s σ H D (I.jO _) hw) (fun _ _ q => q.ib) fun _ _ z => False.elim z⟩
end
section
variable {X : Cx} {st : Stmt} {rest : List Stmt} {t u : TS} {e : Expr} {te : TE} {pos : Pos}
noncomputable def IW : TS := fun D σ H => D.nx σ H
noncomputable def Lz (t u : TS) : TS := fun D σ H => t { D with nx := u D } σ H
theorem Dn : fU X [] IW := ⟨fun _ _ σ H _ I h => wpAny_execs_nil ⟨σ, H, I, h⟩⟩
theorem Ai (h1 : PS X st t) (h2 : fU X rest u) : fU X (st :: rest) (Lz t u) := by
  refine ⟨?_⟩
  intro pins s σ H D I h
  refine wpAny_execs_cons (thn (h1 pins s σ H { D with nx := u D } I h) fun f s1 q => ?_)
  cases f with
  | next =>
    obtain ⟨aK, H', I', q⟩ := q
    exact h2 pins s1 aK H' D I' q
  | ret v => exact q
  | brk => exact q
  | cont => exact q
theorem Dp (h1 : PS X st t) : fU X [st] t := by
  refine ⟨?_⟩
  intro pins s σ H D I h
  refine wpAny_execs_cons (thn (h1 pins s σ H D I h) fun f s1 q => ?_)
  cases f with
  | next => exact wpAny_execs_nil q
  | ret v => exact q
  | brk => exact q
  | cont => exact q
theorem Inv.quiet {pins : List (Addr × Obj)} {σ : St} {H : Hp} {s : Shared} (I : Inv X pins σ H s) : interactive X.env = false := by simp [interactive, I.ok.kind]
noncomputable def IX (te : TE) : TS := fun D σ H => te σ H fun _ H1 => D.nx σ H1
theorem Dq (he : PE X e te) (hs : swapsWith e none pos.line X.env = pure false := by rfl) : PS X (.Expr e pos) (IX te) := by
  refine ⟨?_⟩
  intro pins s σ H D I h
  exact wpAny_Expr_any (thn (he pins s σ H _ I h) fun v s1 ⟨x, H1, I1, r1, q1⟩ => ⟨σ, H1, I1, q1⟩) I.quiet hs
noncomputable def LA (te : TE) : TS := fun D σ H => te σ H D.rt
theorem Fn (he : PE X e te) : PS X (.Return (some e) pos) (LA te) := by
  refine ⟨?_⟩
  intro pins s σ H D I h
  exact wpAny_Return_some (thn (he pins s σ H _ I h) fun v s1 ⟨x, H1, I1, r1, q1⟩ => ⟨x, σ, H1, I1, r1, q1⟩)
noncomputable def LC (c : TT) (t u : TS) : TS := fun D σ H => c σ H fun b H1 => if b = true then t D σ H1 else u D σ H1
theorem IY {c : Expr} {a b : List Stmt} {tc : TT} (hc : PT X c tc) (ha : fU X a t) (hb : fU X b u) : PS X (.If c a b pos) (LC tc t u) := by
  refine ⟨?_⟩
  intro pins s σ H D I h
  refine wpAny_If (thn (hc pins s σ H _ I h) fun d s1 ⟨H1, I1, q1⟩ => ?_)
  cases d with
  | true => exact ha pins s1 σ H1 D I1 q1
  | false => exact hb pins s1 σ H1 D I1 q1
end
noncomputable abbrev TG := V → St → Hp → (St → Hp → Prop) → Prop
noncomputable abbrev oj := List V → St → Hp → (St → Hp → Prop) → Prop
noncomputable def PG (X : Cx) (target : Expr) (t : TG) : Prop :=
  ∀ (pins : List (Addr × Obj)) (s : Shared) (σ : St) (H : Hp) (v : V) (u : Value) (Q : St → Hp → Prop), Inv X pins σ H s → RelV v u → t v σ H Q →
    wpAny (model X.prog X.w) X.A (assign target X.env u) (fun _ s' => ∃ aK H', Inv X pins aK H' s' ∧ Q aK H') X.xe s
noncomputable def qu (X : Cx) (ts : List Expr) (t : oj) : Prop :=
  ∀ (pins : List (Addr × Obj)) (s : Shared) (σ : St) (H : Hp) (vs : List V) (us : List Value) (Q : St → Hp → Prop), Inv X pins σ H s → Vals vs us → t vs σ H Q →
    wpAny (model X.prog X.w) X.A (assignInOrder ((assignEach ts X.env).map (·.2)) us) (fun _ s' => ∃ aK H', Inv X pins aK H' s' ∧ Q aK H') X.xe s
noncomputable abbrev Aj := V → V → V → Hp → (Hp → Prop) → Prop
noncomputable def Fo (X : Cx) (t : Aj) : Prop :=
  ∀ (pins : List (Addr × Obj)) (s : Shared) (σ : St) (H : Hp) (o i v : V) (ov iv u : Value) (Q : Hp → Prop), Inv X pins σ H s → RelV o ov → RelV i iv → RelV v u → t o i v H Q →
    wpAny (model X.prog X.w) X.A (setItem ov iv u) (fun _ s' => ∃ H', Inv X pins σ H' s' ∧ Q H') X.xe s
section
variable {X : Cx} {pos : Pos}
noncomputable def ke (i : Nat) : TG := fun v σ H Q => Q (σ.set i (some v)) H
theorem Dr {i : Nat} {x : Str} (hN : X.N.Nodup) (hi : X.N[i]? = some x) (hx : Loc X.env.scope x) (hf : X.fn x = true ∨ X.env.scope.names.lookup x = some .local := by first | exact .inl rfl | exact .inr rfl | assumption) : PG X (.Name x pos) (ke i) := by
  intro pins s σ H v u Q I r h
  exact wpAny_assign_Name (sh I hN hi hx r (fun s' I' => ⟨_, H, I', h⟩) hf)
noncomputable def LD : oj := fun vs σ H Q => vs = [] ∧ Q σ H
noncomputable def IZ (t : TG) (u : oj) : oj := fun vs σ H Q => ∃ v r, vs = v :: r ∧ t v σ H fun aK H' => u r aK H' Q
theorem Ds : qu X [] LD := by
  intro pins s σ H vs us Q I r h
  obtain ⟨e, h⟩ := h
  subst e
  cases r
  exact assignInOrder_nil ⟨σ, H, I, h⟩
theorem Ak {e : Expr} {es : List Expr} {t : TG} {u : oj} (h1 : PG X e t) (h2 : qu X es u)
    (hs : (assignEach (e :: es) X.env).map (·.2) = assign e X.env :: (assignEach es X.env).map (·.2) := by rfl) : qu X (e :: es) (IZ t u) := by
  intro pins s σ H vs us Q I r h
  obtain ⟨v, vr, e1, h⟩ := h
  subst e1
  cases r with
  | cons r rr =>
    rw [hs]
    refine assignInOrder_cons (thn (h1 pins s σ H _ _ _ I r h) fun _ s1 ⟨om, H1, I1, q1⟩ => ?_)
    exact h2 pins s1 om H1 _ _ Q I1 rr q1
noncomputable def LI (K : PySem.W.Frag) (n : Nat) (t : oj) : TG := fun v σ H Q => ∃ a xs, v = .ref a ∧ cN K H a xs ∧ xs.length = n ∧ t xs σ H Q
theorem Fp {es : List Expr} {k : Nat} {t : oj} {n : Nat} (hc : X.calm = true) (h : qu X es t)
    (hn : (assignEach es X.env).length = n := by rfl) (B9 : (assignEach es X.env).findIdx? (·.1) = none := by rfl) : PG X (.Tuple es k pos) (LI X.K n t) := by
  intro pins s σ H v u Q I r hw
  obtain ⟨a, xs, e1, hq, hl, hw⟩ := hw
  subst e1
  cases r
  obtain ⟨its, rv, ht, hz⟩ := I.tuple hq
  refine assign_Tuple_tuple (I.ok.hd hc) ht (by simp [hn, ← hl, rv.length]) B9 fun h' hx => ?_
  have I1 : Inv X pins σ H { s with heap := h' } := I.kept (t' := s.toks) fun b o e => hx b o (Nat.ne_of_lt (Heap.lt_size e)) e
  exact h pins _ σ H xs _ Q I1 (by simpa using rv) hw
noncomputable def LJ (to ti : TE) (t : Aj) : TG := fun v σ H Q => to σ H fun o H1 => ti σ H1 fun i H2 => t o i v H2 fun H3 => Q σ H3
theorem Fq {o i : Expr} {to ti : TE} {t : Aj} (ho : PE X o to) (hi : PE X i ti) (hs : Fo X t)
    (ha : ∀ v, assign (.Subscript o i pos) X.env v = (do
      let ov ← holding [v] (eval o X.env)
      let iv ← holding [v, ov] (eval i X.env)
      standAt pos
      holding [v, ov, iv] (setItem ov iv v)
      release [v, ov, iv] []) := by intro _; rfl) : PG X (.Subscript o i pos) (LJ to ti t) := by
  intro pins s σ H v u Q I r h
  rw [ha]
  refine wpAny_bind (wpAny_holding (thn (ho pins s σ H _ I h) fun ov s1 ⟨x, H1, I1, r1, q1⟩ => ?_))
  refine wpAny_bind (wpAny_holding (thn (hi pins s1 σ H1 _ I1 q1) fun iv s2 ⟨y, H2, I2, r2, q2⟩ => ?_))
  refine wpAny_bind (wpAny_standAt (wpAny_bind (wpAny_holding (thn (hs pins s2 σ H2 x y v ov iv u _ I2 r1 r2 r q2) fun _ s3 ⟨H3, I3, q3⟩ => ?_))))
  exact wpAny_release ⟨σ, H3, I3, q3⟩
noncomputable def nI (te : TE) (g : TG) : TS := fun D σ H => te σ H fun x H1 => g x σ H1 D.nx
theorem Fs {tg e : Expr} {te : TE} {g : TG} (he : PE X e te) (hg : PG X tg g) (hs : swapsWithSole [tg] e pos.line X.env = pure false := by rfl) (hw : swappedStores [tg] e X.env = pure none := by rfl)
    (h1 : (assignEach [tg] X.env).map (·.2) = [assign tg X.env] := by rfl) : PS X (.Assign [tg] e pos) (nI te g) := by
  refine ⟨?_⟩
  intro pins s σ H D I h
  refine wpAny_Assign_stores (thn (he pins s σ H _ I h) fun v s1 ⟨x, H1, I1, r1, q1⟩ => ?_) hs hw
  rw [h1]
  exact thn (hg pins s1 σ H1 x v _ I1 r1 q1) fun _ s2 q => q
theorem Ft {i : Nat} {x : Str} {e : Expr} {te : TE} {pos' : Pos} (hN : X.N.Nodup) (hi : X.N[i]? = some x) (hx : Loc X.env.scope x) (he : PE X e te) (hs : swapsWith e (some (.Name x pos')) pos.line X.env = pure false := by rfl) (hf : X.fn x = true ∨ X.env.scope.names.lookup x = some .local := by first | exact .inl rfl | exact .inr rfl | assumption) :
    PS X (.Assign [.Name x pos'] e pos) (nI te (ke i)) := by
  refine ⟨?_⟩
  intro pins s σ H D I h
  refine wpAny_Assign_Name (thn (he pins s σ H _ I h) fun v s1 ⟨y, H1, I1, r1, q1⟩ => ?_) hs
  exact sh I1 hN hi hx r1 (fun s2 I2 => ⟨_, H1, I2, q1⟩) hf
end
section
variable {X : Cx} {pos : Pos}
noncomputable def xE (c : TT) (tb : TS) : TS := fun D σ H => ∃ W : Nat → St → Hp → Prop, (∃ m, W m σ H) ∧ ∀ m σ H, W m σ H →
  c σ H fun b H1 => if b = true then ∃ N : St → Hp → Prop, (∀ aK H', N aK H' → ∃ m', m' < m ∧ W m' aK H') ∧ tb { D with nx := N, ct := N, bk := D.nx } σ H1 else D.nx σ H1
theorem Al {c : Expr} {body : List Stmt} {tc : TT} {tb : TS} (hp : PassesOwn (model X.prog X.w) X.A X.env X.xe) (hc : PT X c tc) (hb : fU X body tb) : PS X (.While c body [] pos) (xE tc tb) := by
  refine ⟨?_⟩
  intro pins s σ H D I h
  obtain ⟨W, ⟨m0, w0⟩, turn⟩ := h
  refine wpAny_While (codeAny_whileLoop (fun n s' => ∃ aK H', Inv X pins aK H' s' ∧ W n aK H') ?_ m0 ⟨σ, H, I, w0⟩)
  rintro n s1 ⟨om, H1, I1, w1⟩
  refine wpAny_passesOwn hp (thn (hc pins s1 om H1 _ I1 (turn n om H1 w1)) fun b s2 ⟨H2, I2, q2⟩ => ?_)
  cases b with
  | true =>
    obtain ⟨N, hN, q2⟩ := q2
    rw [if_pos rfl]
    refine wpAny_passesOwn hp (thn (hb pins s2 om H2 _ I2 q2) fun f s3 q3 => ?_)
    cases f with
    | next =>
      obtain ⟨k7, H3, I3, n3⟩ := q3
      obtain ⟨m', hm, w3⟩ := hN k7 H3 n3
      exact ⟨m', hm, k7, H3, I3, w3⟩
    | cont =>
      obtain ⟨k7, H3, I3, n3⟩ := q3
      obtain ⟨m', hm, w3⟩ := hN k7 H3 n3
      exact ⟨m', hm, k7, H3, I3, w3⟩
    | brk => exact q3
    | ret v => exact q3
  | false =>
    rw [if_neg Bool.false_ne_true]
    exact wpAny_execs_nil ⟨om, H2, I2, q2⟩
end
structure It where
  go : Nat → Hp → Prop
  yld : Nat → Hp → V → Hp → Prop
  stop : Nat → Hp → Prop
noncomputable def cM (X : Cx) (pins : List (Addr × Obj)) (H : Hp) (b : Addr) : Prop :=
  H b = none ∧ b ≠ X.env.locals ∧ b ∉ X.fs ∧ (b ∈ X.ex ∨ X.s₀.heap.objs.size ≤ b) ∧ (∀ x c, X.env.cells.lookup x = some c → c ≠ b) ∧ ∀ p ∈ X.pn ++ pins, p.1 ≠ b
theorem Inv.jP {X : Cx} {pins : List (Addr × Obj)} {σ : St} {H H' : Hp} {s : Shared} {b : Addr} (I : Inv X pins σ H s) (hb : s.heap.objs.size ≤ b) (hn : H' b = none) : cM X pins H' b := by
  refine ⟨hn, Nat.ne_of_gt (Nat.lt_of_lt_of_le I.lt hb), I.E4 hb, .inr (Nat.le_trans I.sz hb), fun x c e z => ?_, fun p hp z => ?_⟩
  · obtain ⟨v, q⟩ := I.cell x c e
    exact absurd (Nat.lt_of_lt_of_le q.lt (by rw [z]; exact hb)) (Nat.lt_irrefl _)
  · exact absurd (Nat.lt_of_lt_of_le (Heap.lt_size (I.pin p hp).1) (by rw [z]; exact hb)) (Nat.lt_irrefl _)
structure Turn (P : Program) (w : World) (K : PySem.W.Frag) (tg : Expr) (J : It) (fp : List Addr) (it : Addr) (tn : Nat → Heap → Prop) : Prop where
  mem : it ∈ fp
  obj : ∀ i h, tn i h → ∀ b ∈ fp, ∃ o, h.get? b = some o ∧ ∀ v, o.data ≠ .cell v
  keep : ∀ i h h', tn i h → (∀ b ∈ fp, ∀ o, h.get? b = some o → h'.get? b = some o) → tn i h'
  item : ∀ (X : Cx), X.prog = P → X.w = w → X.K = K → X.calm = true → ∀ (i : Nat) (pins : List (Addr × Obj)) (s : Shared) (σ : St) (H : Hp) (E : Value → Shared → Prop), Inv X pins σ H s → (∀ b ∈ fp, cM X pins H b) → tn i s.heap → J.go i H →
    wpAny (model P w) X.A (pyNext (.ref it)) (fun r s1 => ∃ u, r = some u ∧
      wpAny (model P w) X.A (letOwnedTupleGo tg (.ref it) u) (fun _ s2 => ∃ x H', Inv X pins σ H' s2 ∧ RelV x u ∧ J.yld i H x H' ∧ tn (i + 1) s2.heap ∧ ∀ b ∈ fp, H' b = none) E s1) E s
  done : ∀ (X : Cx), X.prog = P → X.w = w → X.K = K → X.calm = true → ∀ (i : Nat) (pins : List (Addr × Obj)) (s : Shared) (σ : St) (H : Hp) (E : Value → Shared → Prop), Inv X pins σ H s → (∀ b ∈ fp, cM X pins H b) → tn i s.heap → J.stop i H →
    wpAny (model P w) X.A (pyNext (.ref it)) (fun r s1 => r = none ∧ Inv X pins σ H s1) E s
  self : ∀ (A : Around) (i : Nat) (s : Shared) (Q : Value → Shared → Prop) (E : Value → Shared → Prop), tn i s.heap → Q (.ref it) s → wpAny (model P w) A (pyIter (.ref it)) Q E s
noncomputable abbrev TI := St → Hp → (It → Hp → Prop) → Prop
noncomputable def Kg (X : Cx) (pins : List (Addr × Obj)) (σ : St) (tg : Expr) (R : It → Hp → Prop) (m5 : Value) (s2 : Shared) : Prop :=
  ∃ (it : Addr) (fp : List Addr) (tn : Nat → Heap → Prop) (J : It) (H' : Hp), m5 = .ref it ∧ Inv X pins σ H' s2 ∧ Turn X.prog X.w X.K tg J fp it tn ∧ tn 0 s2.heap ∧ (∀ b ∈ fp, cM X pins H' b) ∧ R J H'
noncomputable def PI (X : Cx) (tg iter : Expr) (wi : TI) : Prop :=
  ∀ (pins : List (Addr × Obj)) (s : Shared) (σ : St) (H : Hp) (R : It → Hp → Prop), Inv X pins σ H s → wi σ H R →
    wpAny (model X.prog X.w) X.A (eval iter X.env) (fun v s1 => wpAny (model X.prog X.w) X.A (pyIter v) (Kg X pins σ tg R) X.xe s1) X.xe s
theorem vV {M : Model} {A : Around} {E : Value → Shared → Prop} {s : Shared} {tg : Expr} {it : Addr} {u : Value} {o : Obj} {n : String} {vs : Array Value} {Q : Unit → Shared → Prop} (ho : s.heap.get? it = some o) (hc : o.cls = .type n) (hd : o.data = .fields vs)
    (hn : ["enumerate", "zip", "dict_itemiterator", "dict_reverseitemiterator", "odict_iterator", "itertools.zip_longest", "itertools.pairwise"].contains n = false) (hQ : Q () s) : wpAny M A (letOwnedTupleGo tg (.ref it) u) Q E s := by
  unfold letOwnedTupleGo
  cases tg <;> first
    | exact wpAny_pure hQ
    | (cases u <;> first
        | exact wpAny_pure hQ
        | (refine wpAny_bind (wpAny_load ho ?_)
           rw [hc, hd]
           show wpAny M A (if (["enumerate", "zip", "dict_itemiterator", "dict_reverseitemiterator", "odict_iterator", "itertools.zip_longest", "itertools.pairwise"].contains n && vs[0]? == some (rawInt _)) = true then _ else _) Q E s
           rw [if_neg (by intro h; rw [hn, Bool.false_and] at h; cases h)]
           exact wpAny_pure hQ))
noncomputable def Fu (K : PySem.W.Frag) (a : Addr) : It :=
  ⟨fun i H => ∃ xs x, bH K H a xs ∧ xs[i]? = some x, fun i H x H' => H' = H ∧ ∀ xs, bH K H a xs → xs[i]? = some x, fun i H => ∃ xs, bH K H a xs ∧ xs.length ≤ i⟩
noncomputable def Fv (K : PySem.W.Frag) (a : Addr) : It :=
  ⟨fun i H => ∃ xs x, cN K H a xs ∧ xs[i]? = some x, fun i H x H' => H' = H ∧ ∀ xs, cN K H a xs → xs[i]? = some x, fun i H => ∃ xs, cN K H a xs ∧ xs.length ≤ i⟩
noncomputable def xF (lo : Int) (n : Nat) : It := ⟨fun i _ => i < n, fun i H x H' => H' = H ∧ x = .int (lo + i), fun i _ => n ≤ i⟩
theorem xG {P : Program} {w : World} {K : PySem.W.Frag} {tg : Expr} (a it : Addr) : Turn P w K tg (Fu K a) [it] it (fun i h => h.IsListIter it a i) where
  mem := by simp
  obj := fun i h st b hb => by
    have e : b = it := by simpa using hb
    subst e
    obtain ⟨o, e, c, d⟩ := st
    exact ⟨o, e, fun v z => by rw [d] at z; cases z⟩
  keep := fun i h h' st k => st.at fun o e => k it (by simp) o e
  item := by
    intro X hP hw hK hc i pins s σ H E I hf st hg
    subst hP hw hK
    obtain ⟨xs, x, hq, hx⟩ := hg
    obtain ⟨its, rv, p, hz⟩ := I.list hq
    obtain ⟨u, hu, ru⟩ := rv.get hx
    obtain ⟨f0, f1, f2, f3, f4, f5⟩ := hf it (by simp)
    refine wpAny_pyNext_list_item st p.isList (x := u) (by simpa using hu) fun h' jU sb => ?_
    have I1 : Inv X pins σ H { s with heap := h' } := I.turned (t' := s.toks) (fun b o hb e => (sb.2 b hb).trans e) f0 f1 f3 f4 f5
    obtain ⟨o, e, c, d⟩ := id jU
    exact ⟨u, rfl, vV (s := { s with heap := h' }) e c d (by decide) ⟨x, H, I1, ru, ⟨rfl, fun ys hy => by rw [I.si hy hq]; exact hx⟩, jU, fun b hb => (hf b hb).1⟩⟩
  done := by
    intro X hP hw hK hc i pins s σ H E I hf st hg
    subst hP hw hK
    obtain ⟨xs, hq, hx⟩ := hg
    obtain ⟨its, rv, p, hz⟩ := I.list hq
    obtain ⟨f0, f1, f2, f3, f4, f5⟩ := hf it (by simp)
    have hl := rv.length
    exact wpAny_pyNext_list_end (I.ok.hd hc) st p.isList (by simp; omega) fun h' eb => ⟨rfl, I.turned (t' := s.toks) (fun b o hb e => eb b o hb e) f0 f1 f3 f4 f5⟩
  self := fun _ _ _ _ _ st h => wpAny_pyIter_listiter st h
theorem vW {P : Program} {w : World} {K : PySem.W.Frag} {tg : Expr} (a it : Addr) : Turn P w K tg (Fv K a) [it] it (fun i h => h.IsTupleIter it a i) where
  mem := by simp
  obj := fun i h st b hb => by
    have e : b = it := by simpa using hb
    subst e
    obtain ⟨o, e, c, d⟩ := st
    exact ⟨o, e, fun v z => by rw [d] at z; cases z⟩
  keep := fun i h h' st k => st.at fun o e => k it (by simp) o e
  item := by
    intro X hP hw hK hc i pins s σ H E I hf st hg
    subst hP hw hK
    obtain ⟨xs, x, hq, hx⟩ := hg
    obtain ⟨its, rv, p, hz⟩ := I.tuple hq
    obtain ⟨u, hu, ru⟩ := rv.get hx
    obtain ⟨f0, f1, f2, f3, f4, f5⟩ := hf it (by simp)
    refine wpAny_pyNext_tuple_item st (show s.heap.IsTuple a its.toArray from p) (x := u) (by simpa using hu) fun h' jU sb => ?_
    have I1 : Inv X pins σ H { s with heap := h' } := I.turned (t' := s.toks) (fun b o hb e => (sb.2 b hb).trans e) f0 f1 f3 f4 f5
    obtain ⟨o, e, c, d⟩ := id jU
    exact ⟨u, rfl, vV (s := { s with heap := h' }) e c d (by decide) ⟨x, H, I1, ru, ⟨rfl, fun ys hy => by rw [I.qt hy hq]; exact hx⟩, jU, fun b hb => (hf b hb).1⟩⟩
  done := by
    intro X hP hw hK hc i pins s σ H E I hf st hg
    subst hP hw hK
    obtain ⟨xs, hq, hx⟩ := hg
    obtain ⟨its, rv, p, hz⟩ := I.tuple hq
    obtain ⟨f0, f1, f2, f3, f4, f5⟩ := hf it (by simp)
    have hl := rv.length
    exact wpAny_pyNext_tuple_end (I.ok.hd hc) st (show s.heap.IsTuple a its.toArray from p) (by simp; omega) fun h' eb => ⟨rfl, I.turned (t' := s.toks) (fun b o hb e => eb b o hb e) f0 f1 f3 f4 f5⟩
  self := fun _ _ _ _ _ st h => wpAny_pyIter_tupleiter st h
theorem vX {P : Program} {w : World} {K : PySem.W.Frag} {tg : Expr} (it : Addr) (lo : Int) (n : Nat) : Turn P w K tg (xF lo n) [it] it (fun i h => IsRangeIter h it (lo + (i : Nat) * 1) ((n : Int) - (i : Nat)) 1) where
  mem := by simp
  obj := fun i h st b hb => by
    have e : b = it := by simpa using hb
    subst e
    exact ⟨_, st, fun v z => by
      have z' : Data.fields _ = Data.cell v := z
      cases z'⟩
  keep := fun i h h' st k => k it (by simp) _ st
  item := by
    intro X hP hw hK hc i pins s σ H E I hf st hg
    subst hP hw hK
    obtain ⟨f0, f1, f2, f3, f4, f5⟩ := hf it (by simp)
    have W := Walks.range (prog := X.prog) (w := X.w) (I.ok.hd hc) it lo 1 n
    refine W.item i s _ _ hg st fun v h' tk hv jU kk => ?_
    obtain ⟨t, rfl⟩ := hv
    have I1 : Inv X pins σ H { s with heap := h', toks := tk } := I.turned (fun b o hb e => kk b o (by simpa using hb) e) f0 f1 f3 f4 f5
    refine ⟨_, rfl, vV (s := { s with heap := h', toks := tk }) (n := "range_iterator") jU rfl rfl (by decide) ⟨.int (lo + i), H, I1, ⟨t, ?_⟩, ⟨rfl, rfl⟩, jU, fun b hb => (hf b hb).1⟩⟩
    rw [Int.mul_one]
  done := by
    intro X hP hw hK hc i pins s σ H E I hf st hg
    subst hP hw hK
    obtain ⟨f0, f1, f2, f3, f4, f5⟩ := hf it (by simp)
    exact wpAny_pyNext_range_end (I.ok.hd hc) st (by have : n ≤ i := hg; omega) fun h' eb => ⟨rfl, I.turned (t' := s.toks) (fun b o hb e => eb b o hb e) f0 f1 f3 f4 f5⟩
  self := fun _ _ _ _ _ st h => wpAny_pyIter_rangeiter st h
section
variable {X : Cx} {tg : Expr}
noncomputable def Ca (K : PySem.W.Frag) (tl : TE) : TI := fun σ H R => tl σ H fun x H1 => ∃ a, x = .ref a ∧ (∃ xs, bH K H1 a xs) ∧ R (Fu K a) H1
noncomputable def Fw (K : PySem.W.Frag) (tl : TE) : TI := fun σ H R => tl σ H fun x H1 => ∃ a, x = .ref a ∧ (∃ xs, cN K H1 a xs) ∧ R (Fv K a) H1
theorem Du {l : Expr} {tl : TE} (hl : PE X l tl) : PI X tg l (Ca X.K tl) := by
  intro pins s σ H R I h
  refine thn (hl pins s σ H _ I h) fun v s1 ⟨x, H1, I1, r1, q1⟩ => ?_
  obtain ⟨a, e, ⟨xs, hq⟩, q⟩ := q1
  subst e
  cases r1
  obtain ⟨its, rv, p, hz⟩ := I1.list hq
  refine wpAny_pyIter_list p.isList ?_
  refine ⟨s1.heap.objs.size, [s1.heap.objs.size], _, _, H1, rfl, I1.kept (t' := s1.toks) fun b o e => Heap.get?_push_of_some _ e, xG a _, ⟨_, Heap.get?_push_size _ rfl, rfl, rfl⟩, fun b hb => ?_, q⟩
  have e : b = s1.heap.objs.size := by simpa using hb
  subst e
  exact I1.jP (Nat.le_refl _) (I1.hok.fresh (Nat.le_refl _))
theorem Fx {l : Expr} {tl : TE} (hl : PE X l tl) : PI X tg l (Fw X.K tl) := by
  intro pins s σ H R I h
  refine thn (hl pins s σ H _ I h) fun v s1 ⟨x, H1, I1, r1, q1⟩ => ?_
  obtain ⟨a, e, ⟨xs, hq⟩, q⟩ := q1
  subst e
  cases r1
  obtain ⟨its, rv, p, hz⟩ := I1.tuple hq
  refine wpAny_pyIter_tuple (show s1.heap.IsTuple a its.toArray from p) ?_
  refine ⟨s1.heap.objs.size, [s1.heap.objs.size], _, _, H1, rfl, I1.kept (t' := s1.toks) fun b o e => Heap.get?_push_of_some _ e, vW a _, ⟨_, Heap.get?_push_size _ rfl, rfl, rfl⟩, fun b hb => ?_, q⟩
  have e : b = s1.heap.objs.size := by simpa using hb
  subst e
  exact I1.jP (Nat.le_refl _) (I1.hok.fresh (Nat.le_refl _))
theorem sj {pins : List (Addr × Obj)} {σ : St} {H : Hp} {s : Shared} {R : It → Hp → Prop} {E : Value → Shared → Prop} {lo hi : Int} {t u v : Tok} {tk : Nat} (I : Inv X pins σ H s) (h1 : -(2 ^ 62) ≤ lo) (h2 : lo < 2 ^ 62) (h3 : -(2 ^ 62) ≤ hi) (h4 : hi < 2 ^ 62)
    (q : R (xF lo (hi - lo).toNat) H) : wpAny (model X.prog X.w) X.A (pyIter (.ref s.heap.objs.size)) (Kg X pins σ tg R) E { s with heap := s.heap.push { cls := .type "range", data := .fields #[.int lo t, .int hi u, .int 1 v] }, toks := tk } := by
  refine wpAny_pyIter_range (IsRange.new ..) (small_one h1 h2 h3 h4) ?_
  have I1 : Inv X pins σ H { s with heap := s.heap.push { cls := .type "range", data := .fields #[.int lo t, .int hi u, .int 1 v] }, toks := tk } := I.kept fun b o e => Heap.get?_push_of_some _ e
  refine ⟨(s.heap.push { cls := .type "range", data := .fields #[.int lo t, .int hi u, .int 1 v] }).objs.size, [(s.heap.push { cls := .type "range", data := .fields #[.int lo t, .int hi u, .int 1 v] }).objs.size], _, _, H, rfl,
    I1.kept (t' := tk) fun b o e => Heap.get?_push_of_some _ e, vX _ lo (hi - lo).toNat, ?_, fun b hb => ?_, q⟩
  · have e1 : lo + ((0 : Nat) : Int) * 1 = lo := by simp
    have e2 : (((hi - lo).toNat : Nat) : Int) - ((0 : Nat) : Int) = Builtin.Range.rangeSize lo hi 1 := by rw [rangeSize_one]; split <;> omega
    show IsRangeIter _ _ (lo + ((0 : Nat) : Int) * 1) ((((hi - lo).toNat : Nat) : Int) - ((0 : Nat) : Int)) 1
    rw [e1, e2]
    exact Heap.get?_push_size _ rfl
  · have e : b = (s.heap.push { cls := .type "range", data := .fields #[.int lo t, .int hi u, .int 1 v] }).objs.size := by simpa using hb
    subst e
    exact I1.jP (Nat.le_refl _) (I1.hok.fresh (Nat.le_refl _))
noncomputable def Cb (ta : TA) : TI := fun σ H R => ta σ H fun vs H1 => ∃ j : Int, vs = [.int j] ∧ -(2 ^ 62) ≤ j ∧ j < 2 ^ 62 ∧ R (xF 0 j.toNat) H1
noncomputable def Cd (ta : TA) : TI := fun σ H R => ta σ H fun vs H1 => ∃ i j : Int, vs = [.int i, .int j] ∧ (-(2 ^ 62) ≤ i ∧ i < 2 ^ 62 ∧ -(2 ^ 62) ≤ j ∧ j < 2 ^ 62) ∧ R (xF i (j - i).toNat) H1
theorem xH {a : Expr} {ta : TA} {p pos : Pos} (hg : Gl X "range") (hm : X.mg "range" = none) (ha : PA X [a] ta) (hs : starEach [a] X.env = [(false, eval a X.env)] := by rfl) : PI X tg (.Call (.Name "range" p) [a] [] pos) (Cb ta) := by
  intro pins s σ H R I h
  refine Call_ (fx I hg hm boot_range (PyProof.Rows.callWith_type1 (thn (ha pos pins s σ H _ I h) fun us s1 ⟨vs, H1, I1, r1, q1⟩ => ?_) hs rfl))
  obtain ⟨j, e, q1, q2, q⟩ := q1
  subst e
  cases r1 with
  | cons r rr =>
    cases rr
    obtain ⟨t, rfl⟩ := r
    exact call_range_1 (sj I1 (by omega) (by omega) q1 q2 (by simpa using q))
theorem qw {a b : Expr} {ta : TA} {p pos : Pos} (hg : Gl X "range") (hm : X.mg "range" = none) (ha : PA X [a, b] ta) (hs : starEach [a, b] X.env = [(false, eval a X.env), (false, eval b X.env)] := by rfl) (iV : starEach [b] X.env = [(false, eval b X.env)] := by rfl) :
    PI X tg (.Call (.Name "range" p) [a, b] [] pos) (Cd ta) := by
  intro pins s σ H R I h
  refine Call_ (fx I hg hm boot_range (PyProof.Rows.callWith_type1 (thn (ha pos pins s σ H _ I h) fun us s1 ⟨vs, H1, I1, r1, q1⟩ => ?_) (by rw [hs, iV]) (by rw [iV]; rfl)))
  obtain ⟨i, j, e, ⟨q1, q2, q3, q4⟩, q⟩ := q1
  subst e
  cases r1 with
  | cons r rr =>
    cases rr with
    | cons r' rr =>
      cases rr
      obtain ⟨t, rfl⟩ := r
      obtain ⟨t', rfl⟩ := r'
      exact call_range_2 (sj I1 q1 q2 q3 q4 q)
noncomputable def Fy (wi : TI) (g : TG) (tb : TS) : TS := fun D σ H => wi σ H fun J H1 => ∃ W : Nat → Nat → St → Hp → Prop, (∃ m, W 0 m σ H1) ∧ ∀ i m σ H, W i m σ H →
  (J.stop i H ∧ D.nx σ H) ∨ (J.go i H ∧ ∃ N : St → Hp → Prop, (∀ aK H', N aK H' → ∃ m', m' < m ∧ W (i + 1) m' aK H') ∧ ∀ x H', J.yld i H x H' → g x σ H' fun oo H2 => tb { D with nx := N, ct := N, bk := D.nx } oo H2)
noncomputable def ie (fp : List Addr) (h : Heap) : List (Addr × Obj) := fp.filterMap fun b => (h.get? b).map fun o => (b, o)
theorem cA {fp : List Addr} {h : Heap} {b : Addr} {o : Obj} (hb : b ∈ fp) (e : h.get? b = some o) : (b, o) ∈ ie fp h := List.mem_filterMap.mpr ⟨b, hb, by rw [e]; rfl⟩
theorem xI {fp : List Addr} {h : Heap} {p : Addr × Obj} (hp : p ∈ ie fp h) : p.1 ∈ fp ∧ h.get? p.1 = some p.2 := by
  obtain ⟨b, hb, e⟩ := List.mem_filterMap.mp hp
  cases q : h.get? b with
  | none => rw [q] at e; cases e
  | some o =>
    rw [q] at e
    have e' : (b, o) = p := Option.some.inj e
    subst e'
    exact ⟨hb, q⟩
theorem Inv.pinned {pins : List (Addr × Obj)} {σ : St} {H : Hp} {s : Shared} {fp : List Addr} (I : Inv X pins σ H s) (hf : ∀ b ∈ fp, cM X pins H b) (ho : ∀ b ∈ fp, ∃ o, s.heap.get? b = some o ∧ ∀ v, o.data ≠ .cell v) : Inv X (pins ++ ie fp s.heap) σ H s :=
  I.pJ fun p hp => (List.mem_append.mp hp).elim (fun z => I.pin p (List.mem_append_right _ z)) fun z => by
    obtain ⟨hb, e⟩ := xI z
    obtain ⟨f0, f1, f2, _⟩ := hf p.1 hb
    obtain ⟨o, e', d⟩ := ho p.1 hb
    rw [e] at e'; cases e'
    exact ⟨e, f0, f1, f2, d⟩
theorem Inv.ei {pins pl : List (Addr × Obj)} {σ : St} {H : Hp} {s : Shared} (I : Inv X (pins ++ pl) σ H s) : Inv X pins σ H s := I.pJ fun p hp => I.pin p (List.mem_append_right _ (List.mem_append_left _ hp))
theorem FA {iter : Expr} {body : List Stmt} {wi : TI} {g : TG} {tb : TS} {pos : Pos} (hp : PassesOwn (model X.prog X.w) X.A X.env X.xe) (hc : X.calm = true) (hi : PI X tg iter wi) (hg : PG X tg g) (hb : fU X body tb)
    (hs : ∀ x, foldedSetIterable iter X.env x = pure x := by intro _; rfl) : PS X (.For tg iter body [] pos) (Fy wi g tb) := by
  refine ⟨?_⟩
  intro pins s σ H D I h
  refine wpAny_For (thn (hi pins s σ H _ I h) fun v s1 h1 => thn h1 fun m5 s2 h2 => ?_) hs
  obtain ⟨it, fp, tn, J, H2, e, I2, T, gH, f2, W, ⟨m0, w0⟩, turn⟩ := h2
  subst e
  have stat : ∀ {H' : Hp}, (∀ b ∈ fp, H' b = none) → ∀ b ∈ fp, cM X pins H' b := fun hn b hb => ⟨hn b hb, (f2 b hb).2⟩
  refine codeAny_forLoop_any (fun n s' => ∃ i aK H', Inv X pins aK H' s' ∧ tn i s'.heap ∧ (∀ b ∈ fp, H' b = none) ∧ W i n aK H') ?_ m0 ⟨0, σ, H2, I2, gH, fun b hb => (f2 b hb).1, w0⟩
  rintro n s3 ⟨i, k7, H3, I3, jr, lx, w3⟩
  rcases turn i n k7 H3 w3 with ⟨stop, qn⟩ | ⟨go, N, hN, step⟩
  · refine wpAny_passesOwn hp (thn (T.done X rfl rfl rfl hc i pins s3 k7 H3 X.xe I3 (stat lx) jr stop) fun r s4 ⟨hr, I4⟩ => ?_)
    subst hr
    exact wpAny_execs_nil ⟨k7, H3, I4, qn⟩
  · refine wpAny_passesOwn hp (thn (T.item X rfl rfl rfl hc i pins s3 k7 H3 X.xe I3 (stat lx) jr go) fun r s4 ⟨u, hr, h4⟩ => ?_)
    subst hr
    refine wpAny_passesOwn hp (thn h4 fun _ s5 ⟨x, H5, I5, r5, y5, gf, oq⟩ => ?_)
    have ot := I5.pinned (stat oq) (T.obj _ _ gf)
    refine wpAny_passesOwn hp (thn (hg _ s5 k7 H5 x u _ ot r5 (step x H5 y5)) fun _ s6 ⟨ML, H6, I6, q6⟩ => ?_)
    refine wpAny_passesOwn hp (thn (hb _ s6 ML H6 _ I6 q6) fun f s7 q7 => ?_)
    have again : ∀ {ly : St} {H7 : Hp}, Inv X (pins ++ ie fp s5.heap) ly H7 s7 → N ly H7 → ∃ m, m < n ∧ ∃ i aK H', Inv X pins aK H' s7 ∧ tn i s7.heap ∧ (∀ b ∈ fp, H' b = none) ∧ W i m aK H' := fun {ly H7} I7 n7 => by
      obtain ⟨m', hm, w7⟩ := hN ly H7 n7
      refine ⟨m', hm, i + 1, ly, H7, I7.ei, T.keep _ _ _ gf fun b hb o e => (I7.pin (b, o) (List.mem_append_right _ (List.mem_append_right _ (cA hb e)))).1, fun b hb => ?_, w7⟩
      obtain ⟨o, e, d⟩ := T.obj _ _ gf b hb
      exact (I7.pin (b, o) (List.mem_append_right _ (List.mem_append_right _ (cA hb e)))).2.1
    cases f with
    | next => obtain ⟨ly, H7, I7, n7⟩ := q7; exact again I7 n7
    | cont => obtain ⟨ly, H7, I7, n7⟩ := q7; exact again I7 n7
    | brk => obtain ⟨ly, H7, I7, q7⟩ := q7; exact ⟨ly, H7, I7.ei, q7⟩
    | ret v => obtain ⟨x7, ly, H7, I7, r7, q7⟩ := q7; exact ⟨x7, ly, H7, I7.ei, r7, q7⟩
end
noncomputable abbrev R2 := V → V → Hp → VK → Prop
noncomputable def OpR (X : Cx) (f : Value → Value → Sem Value) (r : R2) : Prop :=
  ∀ (pins : List (Addr × Obj)) (s : Shared) (σ : St) (H : Hp) (x y : V) (v u : Value) (Q : VK), Inv X pins σ H s → RelV x v → RelV y u → r x y H Q →
    wpAny (model X.prog X.w) X.A (f v u) (EP X pins σ Q) X.xe s
noncomputable def cP (X : Cx) (f : Value) (r : List V → Hp → VK → Prop) : Prop :=
  ∀ (pins : List (Addr × Obj)) (s : Shared) (σ : St) (H : Hp) (xs : List V) (us : List Value) (Q : VK), Inv X pins σ H s → Vals xs us → r xs H Q →
    wpAny (model X.prog X.w) X.A (call f us) (EP X pins σ Q) X.xe s
noncomputable def LK (X : Cx) (r : V → Hp → (Bool → Hp → Prop) → Prop) : Prop :=
  ∀ (pins : List (Addr × Obj)) (s : Shared) (σ : St) (H : Hp) (x : V) (v : Value) (Q : Bool → Hp → Prop), Inv X pins σ H s → RelV x v → r x H Q →
    wpAny (model X.prog X.w) X.A (truthy v) (TP X pins σ Q) X.xe s
noncomputable def xJ (r : R2) (ta tb : TE) : TE := fun σ H Q => ta σ H fun x H1 => tb σ H1 fun y H2 => r x y H2 Q
noncomputable def rI (C : Int → Int → Prop) (g : Int → Int → V) : R2 := fun x y H Q => ∃ i j, x = .int i ∧ y = .int j ∧ C i j ∧ Q (g i j) H
noncomputable def qy (g : Int → Int → V) : R2 := fun x y H Q => ∃ i j, x = .int i ∧ y = .int j ∧ Q (g i j) H
section
variable {X : Cx} {a b c : Expr} {ta tb tc : TE} {pos : Pos}
theorem Am (ha : PE X a ta) (hb : PE X b tb) {pins : List (Addr × Obj)} {s : Shared} {σ : St} {H : Hp} {R : V → V → Hp → Prop} (I : Inv X pins σ H s)
    (h : ta σ H fun x H1 => tb σ H1 fun y H2 => R x y H2) {Q : Value → Shared → Prop} {f : Value → Value → Sem Value}
    (hf : ∀ v u s2 x y H2, Inv X pins σ H2 s2 → RelV x v → RelV y u → R x y H2 → wpAny (model X.prog X.w) X.A (f v u) Q X.xe s2) :
    wpAny (model X.prog X.w) X.A (eval a X.env) (fun v aE => wpAny (model X.prog X.w) X.A (eval b X.env) (fun u jN => wpAny (model X.prog X.w) X.A (f v u) Q X.xe jN) X.xe aE) X.xe s := by
  refine thn (ha pins s σ H _ I h) fun v s1 ⟨x, H1, I1, r1, q1⟩ => ?_
  refine thn (hb pins s1 σ H1 _ I1 q1) fun u s2 ⟨y, H2, I2, r2, q2⟩ => ?_
  exact hf v u s2 x y H2 I2 r1 r2 q2
theorem Ja {op : Operator} {r : R2} (ho : OpR X (binaryOp op) r) (ha : PE X a ta) (hb : PE X b tb) : PE X (.BinOp a op b pos) (xJ r ta tb) := by
  refine ⟨?_⟩
  intro pins s σ H Q I h
  exact wpAny_BinOp (Am ha hb I h fun v u s2 x y H2 I2 rx ry q => ho pins s2 σ H2 x y v u Q I2 rx ry q)
theorem Ce {f : Value → Value → Sem Value} {C : Int → Int → Prop} {g : Int → Int → Int}
    (rule : ∀ (i j : Int) (t u : Tok) (s : Shared) (Q : Value → Shared → Prop) (E : Value → Shared → Prop), C i j → Q (.int (g i j) s.toks) { s with toks := s.toks + 1 } → wpAny (model X.prog X.w) X.A (f (.int i t) (.int j u)) Q E s) :
    OpR X f (rI C fun i j => .int (g i j)) := by
  intro pins s σ H x y v u Q I rx ry h
  obtain ⟨i, j, rfl, rfl, hc, q⟩ := h
  obtain ⟨t, rfl⟩ := rx
  obtain ⟨t', rfl⟩ := ry
  exact rule i j t t' s _ _ hc ⟨.int (g i j), H, I.tok _, ⟨_, rfl⟩, q⟩
theorem FC {f : Value → Value → Sem Value} {g : Int → Int → Int}
    (rule : ∀ (i j : Int) (t u : Tok) (s : Shared) (Q : Value → Shared → Prop) (E : Value → Shared → Prop), Q (.int (g i j) s.toks) { s with toks := s.toks + 1 } → wpAny (model X.prog X.w) X.A (f (.int i t) (.int j u)) Q E s) :
    OpR X f (qy fun i j => .int (g i j)) := by
  intro pins s σ H x y v u Q I rx ry h
  obtain ⟨i, j, rfl, rfl, q⟩ := h
  obtain ⟨t, rfl⟩ := rx
  obtain ⟨t', rfl⟩ := ry
  exact rule i j t t' s _ _ ⟨.int (g i j), H, I.tok _, ⟨_, rfl⟩, q⟩
theorem An {f : Value → Value → Sem Value} {g : Int → Int → Bool}
    (rule : ∀ (i j : Int) (t u : Tok) (s : Shared) (Q : Value → Shared → Prop) (E : Value → Shared → Prop), Q (.bool (g i j)) s → wpAny (model X.prog X.w) X.A (f (.int i t) (.int j u)) Q E s) :
    OpR X f (qy fun i j => .bl (g i j)) := by
  intro pins s σ H x y v u Q I rx ry h
  obtain ⟨i, j, rfl, rfl, q⟩ := h
  obtain ⟨t, rfl⟩ := rx
  obtain ⟨t', rfl⟩ := ry
  exact rule i j t t' s _ _ ⟨.bl (g i j), H, I, rfl, q⟩
noncomputable def FD (i j : Int) : Prop := 0 < j ∧ j < 1073741824
noncomputable def FE (i j : Int) : Prop := 0 ≤ j ∧ j ≤ 1000000 ∧ i.natAbs < 2 ^ 64
noncomputable def vY (i j : Int) : Prop := (-(2 ^ 64) < i ∧ i < 2 ^ 64) ∨ (-(2 ^ 64) < j ∧ j < 2 ^ 64)
theorem vY.ok {i j : Int} (h : vY i j) : IntMulOk i j := by
  rcases h with ⟨h1, h2⟩ | ⟨h1, h2⟩
  · exact .of_left (intBits_le_64 h1 h2)
  · exact .of_right (intBits_le_64 h1 h2)
theorem FG : OpR X (binaryOp .Add) (qy fun i j => .int (i + j)) := FC fun _ _ _ _ _ _ _ q => add_int q
theorem FH : OpR X (binaryOp .Sub) (qy fun i j => .int (i - j)) := FC fun _ _ _ _ _ _ _ q => sub_int q
theorem FI : OpR X (binaryOp .Mult) (rI vY fun i j => .int (i * j)) := Ce fun _ _ _ _ _ _ _ hc q => mul_int q hc.ok
theorem Dw : OpR X (binaryOp .FloorDiv) (rI FD fun i j => .int (i / j)) := Ce fun i j _ _ _ _ _ hc q => by
  have h1 : (0 : Int) < j := hc.1
  have h2 : j < 1073741824 := hc.2
  exact floordiv_int (by omega) (by rw [Int.fdiv_eq_ediv_of_nonneg i (by omega)]; exact q) (.inl (PyProof.noPylong_small (by omega)))
theorem FJ : OpR X (binaryOp .Mod) (rI (fun _ j => 0 < j) fun i j => .int (i % j)) := Ce fun i j _ _ _ _ _ hc q => by
  have h1 : (0 : Int) < j := hc
  exact mod_int' (by omega) (by rw [Int.fmod_eq_emod_of_nonneg i (by omega)]; exact q)
theorem FK : OpR X (binaryOp .Pow) (rI FE fun i j => .int (i ^ j.toNat)) := Ce fun _ _ _ _ _ _ _ hc q => pow_int_small hc.1 hc.2.1 hc.2.2 q
end
noncomputable def Ao : V → V → Bool
  | .au, .au => true | .au, .int _ => true | .int _, .au => true | .au, .bl _ => true | .bl _, .au => true | .au, .str _ => true | .str _, .au => true
  | .int _, .int _ => true | .bl _, .bl _ => true | .str _, .str _ => true | .iT _, .iT _ => true
  | .int _, .str _ => true | .str _, .int _ => true | .bl _, .str _ => true | .str _, .bl _ => true
  | _, _ => false
noncomputable def MM : R2 := fun x y H Q => Ao x y = true ∧ Q (.bl (decide (x = y))) H
noncomputable def MN : R2 := fun x y H Q => Ao x y = true ∧ Q (.bl (!decide (x = y))) H
theorem vg {i j : Int} : decide (V.int i = V.int j) = (i == j) := by
  rw [Bool.eq_iff_iff]
  simp
theorem xK {i j : Bool} : decide (V.bl i = V.bl j) = (i == j) := by
  rw [Bool.eq_iff_iff]
  simp
theorem vh {i j : Str} : decide (V.str i = V.str j) = (i == j) := by
  rw [Bool.eq_iff_iff]
  simp
theorem vi {i j : Array UInt8} : decide (V.iT i = V.iT j) = (i.toList == j.toList) := by
  rw [Bool.eq_iff_iff]
  cases i
  cases j
  simp
section
variable {X : Cx} {a b c : Expr} {ta tb tc : TE} {pos : Pos}
theorem aX {pins : List (Addr × Obj)} {σ : St} {H : Hp} {s : Shared} {Q : VK} {k k' : Bool} (I : Inv X pins σ H s) (q : Q (.bl k) H) (e : k = k') : EP X pins σ Q (.bool k') s := by
  subst e
  exact ⟨.bl k, H, I, rfl, q⟩
theorem Jb : OpR X (compareOp .Eq) MM := by
  intro pins s σ H x y v u Q I rx ry h
  obtain ⟨hs, q⟩ := h
  cases x with
  | au =>
    cases rx
    cases y with
    | au => cases ry; exact PySem.EqNone.eq_none_none (aX I q (by simp))
    | bl j => cases ry; exact PySem.EqNone.eq_none_bool (aX I q (by simp))
    | int j => obtain ⟨t', rfl⟩ := ry; exact PySem.EqNone.eq_none_int (aX I q (by simp))
    | str j => obtain ⟨t', rfl⟩ := ry; exact PySem.EqNone.eq_none_str (aX I q (by simp))
    | _ => exact absurd (show false = true from hs) Bool.false_ne_true
  | bl i =>
    cases rx
    cases y with
    | au => cases ry; exact PySem.EqNone.eq_bool_none (aX I q (by simp))
    | bl j => cases ry; exact eq_bool (aX I q xK)
    | str j => obtain ⟨t', rfl⟩ := ry; exact PySem.EqMixed.eq_bool_str (aX I q (by simp))
    | _ => exact absurd (show false = true from hs) Bool.false_ne_true
  | int i =>
    obtain ⟨t, rfl⟩ := rx
    cases y with
    | au => cases ry; exact PySem.EqNone.eq_int_none (aX I q (by simp))
    | int j => obtain ⟨t', rfl⟩ := ry; exact eq_int (aX I q vg)
    | str j => obtain ⟨t', rfl⟩ := ry; exact PySem.EqMixed.eq_int_str (aX I q (by simp))
    | _ => exact absurd (show false = true from hs) Bool.false_ne_true
  | str i =>
    obtain ⟨t, rfl⟩ := rx
    cases y with
    | au => cases ry; exact PySem.EqNone.eq_str_none (aX I q (by simp))
    | bl j => cases ry; exact PySem.EqMixed.eq_str_bool (aX I q (by simp))
    | int j => obtain ⟨t', rfl⟩ := ry; exact PySem.EqMixed.eq_str_int (aX I q (by simp))
    | str j => obtain ⟨t', rfl⟩ := ry; exact eq_str (aX I q vh)
    | _ => exact absurd (show false = true from hs) Bool.false_ne_true
  | iT i =>
    obtain ⟨t, rfl⟩ := rx
    cases y with
    | iT j => obtain ⟨t', rfl⟩ := ry; exact PySem.W.eq_bytes (aX I q vi)
    | _ => exact absurd (show false = true from hs) Bool.false_ne_true
  | _ => cases y <;> exact absurd (show false = true from hs) Bool.false_ne_true
theorem Jc : OpR X (compareOp .NotEq) MN := by
  intro pins s σ H x y v u Q I rx ry h
  obtain ⟨hs, q⟩ := h
  cases x with
  | au =>
    cases rx
    cases y with
    | au => cases ry; exact PySem.EqNone.ne_none_none (aX I q (by simp))
    | bl j => cases ry; exact PySem.EqNone.ne_none_bool (aX I q (by simp))
    | int j => obtain ⟨t', rfl⟩ := ry; exact PySem.EqNone.ne_none_int (aX I q (by simp))
    | str j => obtain ⟨t', rfl⟩ := ry; exact PySem.EqNone.ne_none_str (aX I q (by simp))
    | _ => exact absurd (show false = true from hs) Bool.false_ne_true
  | bl i =>
    cases rx
    cases y with
    | au => cases ry; exact PySem.EqNone.ne_bool_none (aX I q (by simp))
    | bl j => cases ry; exact ne_bool (aX I q (congrArg not xK))
    | str j => obtain ⟨t', rfl⟩ := ry; exact PySem.EqMixed.ne_bool_str (aX I q (by simp))
    | _ => exact absurd (show false = true from hs) Bool.false_ne_true
  | int i =>
    obtain ⟨t, rfl⟩ := rx
    cases y with
    | au => cases ry; exact PySem.EqNone.ne_int_none (aX I q (by simp))
    | int j => obtain ⟨t', rfl⟩ := ry; exact ne_int (aX I q (congrArg not vg))
    | str j => obtain ⟨t', rfl⟩ := ry; exact PySem.EqMixed.ne_int_str (aX I q (by simp))
    | _ => exact absurd (show false = true from hs) Bool.false_ne_true
  | str i =>
    obtain ⟨t, rfl⟩ := rx
    cases y with
    | au => cases ry; exact PySem.EqNone.ne_str_none (aX I q (by simp))
    | bl j => cases ry; exact PySem.EqMixed.ne_str_bool (aX I q (by simp))
    | int j => obtain ⟨t', rfl⟩ := ry; exact PySem.EqMixed.ne_str_int (aX I q (by simp))
    | str j => obtain ⟨t', rfl⟩ := ry; exact ne_str (aX I q (congrArg not vh))
    | _ => exact absurd (show false = true from hs) Bool.false_ne_true
  | iT i =>
    obtain ⟨t, rfl⟩ := rx
    cases y with
    | iT j => obtain ⟨t', rfl⟩ := ry; exact PySem.W.ne_bytes (aX I q (congrArg not vi))
    | _ => exact absurd (show false = true from hs) Bool.false_ne_true
  | _ => cases y <;> exact absurd (show false = true from hs) Bool.false_ne_true
theorem Jd : OpR X (compareOp .Lt) (qy fun i j => .bl (decide (i < j))) := An fun _ _ _ _ _ _ _ q => lt_int q
theorem Je : OpR X (compareOp .LtE) (qy fun i j => .bl (decide (i ≤ j))) := An fun _ _ _ _ _ _ _ q => le_int q
theorem Jf : OpR X (compareOp .Gt) (qy fun i j => .bl (decide (j < i))) := An fun _ _ _ _ _ _ _ q => gt_int q
theorem FL : OpR X (compareOp .Is) (fun x y H Q => y = .au ∧ Q (.bl (decide (x = .au))) H) := by
  intro pins s σ H x y v u Q I rx ry h
  obtain ⟨rfl, q⟩ := h
  cases ry
  refine is_none_gen (aX I q ?_)
  cases x <;> first
    | (cases rx; rfl)
    | (obtain ⟨t, rfl⟩ := rx; rfl)
theorem aZ (b : Expr) {op : CmpOp} (h : op ≠ .In := by decide) (h2 : op ≠ .NotIn := by decide) : behindInMarks op b = false := by
  have e1 : (op == CmpOp.In) = false := by cases op <;> first | rfl | exact absurd rfl h
  have e2 : (op == CmpOp.NotIn) = false := by cases op <;> first | rfl | exact absurd rfl h2
  cases b <;> simp [behindInMarks, e1, e2]
theorem Dx {op : CmpOp} {r : R2} (ho : OpR X (compareOp op) r) (ha : PE X a ta) (hb : PE X b tb) (hm : behindInMarks op b = false) : PE X (.Compare a [op] [b] pos) (xJ r ta tb) := by
  refine ⟨?_⟩
  intro pins s σ H Q I h
  exact wpAny_Compare1 (Am ha hb I h fun v u s2 x y H2 I2 rx ry q => ho pins s2 σ H2 x y v u Q I2 rx ry q) hm
noncomputable def vZ (t : TE) : TT := fun σ H Q => t σ H fun x H' => ∃ k, x = .bl k ∧ Q k H'
theorem Dy {op : CmpOp} {r : R2} (ho : OpR X (compareOp op) r) (ha : PE X a ta) (hb : PE X b tb) (hm : behindInMarks op b = false) : PT X (.Compare a [op] [b] pos) (vZ (xJ r ta tb)) := by
  refine ⟨?_⟩
  intro pins s σ H Q I h
  refine wpAny_isTrue_Compare1 (thn (ha pins s σ H _ I h) fun v s1 ⟨x, H1, I1, r1, q1⟩ => thn (hb pins s1 σ H1 _ I1 q1) fun u s2 ⟨y, H2, I2, r2, q2⟩ =>
    thn (ho pins s2 σ H2 x y v u _ I2 r1 r2 q2) fun c s3 ⟨z, H3, I3, r3, k, e, q3⟩ => ?_) hm
  subst e
  cases r3
  exact wpAny_truthy_bool ⟨H3, I3, q3⟩
noncomputable def sk (r r' : R2) (ta tb tc : TE) : TE := fun σ H Q => ta σ H fun x H1 => tb σ H1 fun y H2 => r x y H2 fun z H3 => ∃ k, z = .bl k ∧
  (if k = true then tc σ H3 fun w' H4 => r' y w' H4 Q else Q (.bl false) H3)
theorem Ap {op iW : CmpOp} {r r' : R2} (ho : OpR X (compareOp op) r) (eQ : OpR X (compareOp iW) r') (ha : PE X a ta) (hb : PE X b tb) (hc : PE X c tc)
    (hm : lastMarks [op, iW] [b, c] = false := by with_unfolding_all rfl) : PE X (.Compare a [op, iW] [b, c] pos) (sk r r' ta tb tc) := by
  refine ⟨?_⟩
  intro pins s σ H Q I h
  refine Compare_chain (thn (ha pins s σ H _ I h) fun v s1 ⟨x, H1, I1, r1, q1⟩ => chain_link (thn (hb pins s1 σ H1 _ I1 q1) fun u s2 ⟨y, H2, I2, r2, q2⟩ =>
    thn (ho pins s2 σ H2 x y v u _ I2 r1 r2 q2) fun d s3 ⟨z, H3, I3, r3, k, e, q3⟩ => ?_)) hm
  subst e
  cases r3
  refine wpAny_truthy_bool ?_
  cases k with
  | false => exact ite_ff ⟨.bl false, H3, I3, rfl, q3⟩
  | true => exact ite_tt (chain_last (thn (hc pins s3 σ H3 _ I3 q3) fun w' s4 ⟨z', H4, I4, r4, q4⟩ => eQ pins s4 σ H4 y z' u w' Q I4 r2 r4 q4))
theorem Aq {op iW : CmpOp} {r r' : R2} (ho : OpR X (compareOp op) r) (eQ : OpR X (compareOp iW) r') (ha : PE X a ta) (hb : PE X b tb) (hc : PE X c tc)
    (hm : lastMarks [op, iW] [b, c] = false := by with_unfolding_all rfl) : PT X (.Compare a [op, iW] [b, c] pos) (vZ (sk r r' ta tb tc)) := by
  refine ⟨?_⟩
  intro pins s σ H Q I h
  refine isTrue_chain (thn (ha pins s σ H _ I h) fun v s1 ⟨x, H1, I1, r1, q1⟩ => test_link (thn (hb pins s1 σ H1 _ I1 q1) fun u s2 ⟨y, H2, I2, r2, q2⟩ =>
    thn (ho pins s2 σ H2 x y v u _ I2 r1 r2 q2) fun d s3 ⟨z, H3, I3, r3, k, e, q3⟩ => ?_)) hm
  subst e
  cases r3
  refine wpAny_truthy_bool ?_
  cases k with
  | false =>
    obtain ⟨k', e', q'⟩ := q3
    cases e'
    exact ite_ff ⟨H3, I3, q'⟩
  | true =>
    refine ite_tt (test_last (thn (hc pins s3 σ H3 _ I3 q3) fun w' s4 ⟨z', H4, I4, r4, q4⟩ => thn (eQ pins s4 σ H4 y z' u w' _ I4 r2 r4 q4) fun d' s5 ⟨z2, H5, I5, r5, k2, e2, q5⟩ => ?_))
    subst e2
    cases r5
    exact wpAny_truthy_bool ⟨H5, I5, q5⟩
noncomputable def Ar (K : PySem.W.Frag) (x : V) (H : Hp) (k : Bool) : Prop :=
  match x with
  | .au => k = false
  | .bl b => k = b
  | .int i => k = (i != 0)
  | .str y => y.length ≤ sizeLine ∧ k = ((y.length : Int) != 0)
  | .iT y => y.size ≤ sizeLine ∧ k = ((y.size : Int) != 0)
  | .ref p => (∃ xs, bH K H p xs ∧ k = !xs.isEmpty) ∨ (∃ xs, cN K H p xs ∧ k = !xs.isEmpty) ∨ ∃ aq, H p = some (.dK aq) ∧ k = !aq.isEmpty
  | _ => False
theorem v3 {κ : Type} {aq : List (κ × V)} {vs : List (κ × Value)} (r : KV aq vs) : (!vs.isEmpty) = !aq.isEmpty := by
  cases r <;> rfl
theorem ou {xs : List V} {its : List Value} (r : Vals xs its) : (!its.toArray.isEmpty) = !xs.isEmpty := by
  cases r <;> simp
theorem jV : (sizeLine : Nat) < 2 ^ 63 := by rw [sizeLine_eq]; decide
theorem FN : LK X (fun x H Q => ∃ k, Ar X.K x H k ∧ Q k H) := by
  intro pins s σ H x v Q I rx h
  obtain ⟨k, e, q⟩ := h
  have hl := jV
  have hs : sizeLine = 16777216 := sizeLine_eq
  cases x with
  | au =>
    cases rx
    have e' : k = false := e
    subst e'
    exact truthy_none ⟨H, I, q⟩
  | bl b =>
    cases rx
    have e' : k = b := e
    subst e'
    exact wpAny_truthy_bool ⟨H, I, q⟩
  | int i =>
    obtain ⟨t, rfl⟩ := rx
    have e' : k = (i != 0) := e
    subst e'
    exact PySem.P.truthy_int ⟨H, I, q⟩
  | str y =>
    obtain ⟨t, rfl⟩ := rx
    obtain ⟨hy, e'⟩ : y.length ≤ sizeLine ∧ k = ((y.length : Int) != 0) := e
    subst e'
    exact PySem.P.truthy_str (by omega) ⟨H, I.tok _, q⟩
  | iT y =>
    obtain ⟨t, rfl⟩ := rx
    obtain ⟨hy, e'⟩ : y.size ≤ sizeLine ∧ k = ((y.size : Int) != 0) := e
    subst e'
    exact PySem.W.truthy_bytes (by omega) ⟨H, I.tok _, q⟩
  | ref p =>
    cases rx
    have e' : (∃ xs, bH X.K H p xs ∧ k = !xs.isEmpty) ∨ (∃ xs, cN X.K H p xs ∧ k = !xs.isEmpty) ∨ ∃ aq, H p = some (.dK aq) ∧ k = !aq.isEmpty := e
    rcases e' with ⟨xs, hx, e'⟩ | ⟨xs, hx, e'⟩ | ⟨aq, hx, e'⟩
    · subst e'
      obtain ⟨its, r, pl, hz⟩ := I.list hx
      have hlen := r.length
      exact wpAny_truthy_list pl.isList (by simp only [List.size_toArray]; omega) ⟨H, I.tok _, by rw [ou r]; exact q⟩
    · subst e'
      obtain ⟨its, r, pl, hz⟩ := I.tuple hx
      have hlen := r.length
      exact truthy_tuple pl (by simp only [List.size_toArray]; omega) ⟨H, I.tok _, by rw [ou r]; exact q⟩
    · subst e'
      obtain ⟨hz, hS, vs, r, m⟩ : aq.length ≤ sizeLine ∧ (p == sysModules) = false ∧ ∃ vs, KV aq vs ∧ s.heap.DictOf (bA X.prog X.w) p vs := I.hok p _ hx
      have hlen : aq.length = vs.length := Paired.length r
      exact wpAny_truthy_dict hS m (by omega) ⟨H, I.tok _, by rw [v3 r]; exact q⟩
  | _ => exact (show False from e).elim
theorem As (ha : PE X a ta) (he : ∀ whole, isTrue a X.env whole = (do let v ← whole; standAt a.pos; holding [v] (truthy v))) :
    PT X a (fun σ H Q => ta σ H fun x H' => ∃ k, Ar X.K x H' k ∧ Q k H') := by
  refine ⟨?_⟩
  intro pins s σ H Q I h
  exact isTrue_plain (thn (ha pins s σ H _ I h) fun v s1 ⟨x, H1, I1, r1, q1⟩ => FN pins s1 σ H1 x v Q I1 r1 q1) (he _)
theorem vals1 {x : V} {us : List Value} (r : Vals [x] us) : ∃ u, us = [u] ∧ RelV x u := by
  cases r with
  | cons r1 r2 => cases r2; exact ⟨_, rfl, r1⟩
theorem vals2 {x y : V} {us : List Value} (r : Vals [x, y] us) : ∃ u w', us = [u, w'] ∧ RelV x u ∧ RelV y w' := by
  cases r with
  | cons r1 r2 =>
    cases r2 with
    | cons r3 r4 => cases r4; exact ⟨_, _, rfl, r1, r3⟩
theorem Au : cP X (.builtin "abs") (fun xs H Q => ∃ i, xs = [.int i] ∧ Q (.int (if i < 0 then -i else i)) H) := by
  intro pins s σ H xs us Q I r h
  obtain ⟨i, rfl, q⟩ := h
  obtain ⟨u, rfl, t, rfl⟩ := vals1 r
  exact call_abs_int fun u tk => ⟨.int (if i < 0 then -i else i), H, I.tok _, ⟨_, rfl⟩, q⟩
theorem xM (hc : X.calm = true) : cP X (.builtin "max") (fun xs H Q => ∃ i j, xs = [.int i, .int j] ∧ Q (.int (if j > i then j else i)) H) := by
  intro pins s σ H xs us Q I r h
  obtain ⟨i, j, rfl, q⟩ := h
  obtain ⟨u, w', rfl, ⟨t, rfl⟩, ⟨t', rfl⟩⟩ := vals2 r
  refine max_two_ints (I.ok.hd hc) fun h' tk k => ⟨_, H, I.kept k, ?_, q⟩
  by_cases hj : j > i
  · rw [if_pos hj, if_pos hj]; exact ⟨_, rfl⟩
  · rw [if_neg hj, if_neg hj]; exact ⟨_, rfl⟩
theorem xN (hc : X.calm = true) : cP X (.builtin "min") (fun xs H Q => ∃ i j, xs = [.int i, .int j] ∧ Q (.int (if j < i then j else i)) H) := by
  intro pins s σ H xs us Q I r h
  obtain ⟨i, j, rfl, q⟩ := h
  obtain ⟨u, w', rfl, ⟨t, rfl⟩, ⟨t', rfl⟩⟩ := vals2 r
  refine min_two_ints (I.ok.hd hc) fun h' tk k => ⟨_, H, I.kept k, ?_, q⟩
  by_cases hj : j < i
  · rw [if_pos hj, if_pos hj]; exact ⟨_, rfl⟩
  · rw [if_neg hj, if_neg hj]; exact ⟨_, rfl⟩
noncomputable def FO (K : PySem.W.Frag) (x : V) (H : Hp) (n : Nat) : Prop :=
  match x with
  | .str y => y.length ≤ sizeLine ∧ n = y.length
  | .iT y => y.size ≤ sizeLine ∧ n = y.size
  | .ref p => (∃ xs, bH K H p xs ∧ n = xs.length) ∨ ∃ xs, cN K H p xs ∧ n = xs.length
  | _ => False
theorem Av : cP X (.builtin "len") (fun xs H Q => ∃ x n, xs = [x] ∧ FO X.K x H n ∧ Q (.int n) H) := by
  intro pins s σ H xs us Q I r h
  obtain ⟨x, n, rfl, e, q⟩ := h
  obtain ⟨u, rfl, rx⟩ := vals1 r
  have hl := jV
  have hs : sizeLine = 16777216 := sizeLine_eq
  cases x with
  | str y =>
    obtain ⟨t, rfl⟩ := rx
    obtain ⟨hy, e'⟩ : y.length ≤ sizeLine ∧ n = y.length := e
    subst e'
    exact len_str (by omega) ⟨.int _, H, I.tok _, ⟨_, rfl⟩, q⟩
  | iT y =>
    obtain ⟨t, rfl⟩ := rx
    obtain ⟨hy, e'⟩ : y.size ≤ sizeLine ∧ n = y.size := e
    subst e'
    exact PySem.W.len_bytes (by omega) ⟨.int _, H, I.tok _, ⟨_, rfl⟩, q⟩
  | ref p =>
    cases rx
    have e' : (∃ xs, bH X.K H p xs ∧ n = xs.length) ∨ ∃ xs, cN X.K H p xs ∧ n = xs.length := e
    rcases e' with ⟨xs, hx, e'⟩ | ⟨xs, hx, e'⟩
    · subst e'
      obtain ⟨its, r', pl, hz⟩ := I.list hx
      have hlen := r'.length
      exact Calls.call_len_list pl.isList (by simp only [List.size_toArray]; omega) ⟨.int xs.length, H, I.tok _, ⟨_, by simp only [List.size_toArray]; rw [hlen]⟩, q⟩
    · subst e'
      obtain ⟨its, r', pl, hz⟩ := I.tuple hx
      have hlen := r'.length
      exact len_tuple pl (by simp only [List.size_toArray]; omega) ⟨.int xs.length, H, I.tok _, ⟨_, by simp only [List.size_toArray]; rw [hlen]⟩, q⟩
  | _ => exact (show False from e).elim
end
structure Aw (h : Heap) (x dx C : Addr) (mA : Str → Option Value) : Prop where
  obj : h.get? x = some (PySem.W.instObj C dx)
  ns : h.Ns1 dx mA
  ne : dx ≠ x
theorem xO {h : Heap} {dx : Addr} {mA : Str → Option Value} (n : h.Ns1 dx mA) : ∃ od, h.get? dx = some od ∧ ∀ name, PySem.W.lookIn name od = some (mA name) := by
  obtain ⟨o, es, ep, ho, hd, hk, _, hm⟩ := n
  refine ⟨o, ho, fun name => ?_⟩
  have e := hm name
  unfold nsFind findBy at e
  rw [← Array.find?_toList] at e
  unfold PySem.W.lookIn
  rw [hd]
  dsimp only
  split
  · rename_i y q
    rw [q] at e
    exact congrArg some e
  · rename_i q
    rw [q] at e
    have a : es.toList.any (·.refKey) = false := by
      rw [List.any_eq_false]
      intro y hy
      obtain ⟨z, t, nJ⟩ := hk y (Array.mem_toList_iff.mp hy)
      simp [DictEntry.refKey, nJ]
    have a' : ¬ es.toList.any (·.refKey) = true := by rw [a]; exact Bool.false_ne_true
    rw [if_neg a']
    exact congrArg some e
theorem Aw.look {h : Heap} {x dx C : Addr} {mA : Str → Option Value} (I : Aw h x dx C mA) : ∃ od, PySem.W.InstAt h x (PySem.W.instObj C dx) C (some od) ∧ ∀ name, PySem.W.lookIn name od = some (mA name) :=
  let ⟨od, ho, hl⟩ := xO I.ns
  ⟨od, ⟨I.obj, rfl, rfl, ho⟩, hl⟩
theorem gN.some_of {v : V} {o : Option Value} (r : gN (some v) o) : ∃ u, o = some u ∧ RelV v u := by
  cases o with
  | none => exact (show False from r).elim
  | some u => exact ⟨u, rfl, r⟩
section
variable {P : Program} {w : World} {H H' : Hp} {h h' : Heap} {a C dx : Addr} {fs MH : List (Str × V)}
theorem Dz (hok : cw P w H h) (e : H a = some (.ins C dx fs)) : ∃ mA, Aw h a dx C mA ∧ (∀ f, gN (fs.lookup f) (mA f)) ∧ PySem.Within mA (fs.map (·.1)) ∧ fs.length ≤ 1000 ∧ H dx = some (.own a) := by
  obtain ⟨d, z, ne, ob, mA, n, r, q⟩ := (show ObjOk P w H h a (.ins C dx fs) from hok a _ e)
  exact ⟨mA, ⟨ob, n, ne⟩, r, q, z, d⟩
end
structure FP (K : PySem.W.Frag) (C : Addr) : Prop where
  pg : PySem.W.plainGet K C Str.empty = true
  hd : PySem.W.hasDictIn K C = true
  po : PySem.W.plainOver K C = true
  sa : PySem.W.findIn K (.ref C) "__setattr__" = some (some (.builtin "object.__setattr__"))
theorem FP.get {K : PySem.W.Frag} {C : Addr} (c : FP K C) (f : Str) : PySem.W.plainGet K C f = true := c.pg
section
variable {X : Cx} {pins : List (Addr × Obj)} {σ : St} {H : Hp} {s : Shared} {A : Around} {E : Value → Shared → Prop} {Q : Value → Shared → Prop} {c : Value} {b : Bool}
inductive fL (K : PySem.W.Frag) (H : Hp) : V → Value → Prop where
  | au : fL K H .au (.type "NoneType")
  | bl (x : Bool) : fL K H (.bl x) (.type "bool")
  | int (i : Int) : fL K H (.int i) (.type "int")
  | str (x : Str) : fL K H (.str x) (.type "str")
  | ve (x : UInt64) : fL K H (.ve x) (.type "float")
  | lst {a : Addr} {xs : List V} (e : H a = some (.lst xs)) : fL K H (.ref a) (.type "list")
  | fm {a : Addr} {o : Obj} {xs : List V} (e : H a = some (.fm o (.lst xs))) : fL K H (.ref a) (.type "list")
  | tup {a : Addr} {xs : List V} (e : H a = some (.tup xs)) : fL K H (.ref a) (.type "tuple")
  | dK {a : Addr} {aq : List (Key × V)} (e : H a = some (.dK aq)) : fL K H (.ref a) (.type "dict")
  | dT {a : Addr} {aq : List (List Key × V)} (e : H a = some (.dT aq)) : fL K H (.ref a) (.type "dict")
  | ins {a C dx : Addr} {fs : List (Str × V)} (e : H a = some (.ins C dx fs)) (cl : FP K C) (ha : PySem.W.findIn K (.ref C) "__class__" = some (some (.builtin "object.__class__")))
      (hn : PySem.W.specialIn K (.builtin "object.__class__") "__get__" = some (some (.builtin "getset_descriptor.__get__"))) (Kh : PySem.W.takesIn K (.builtin "object.__class__") = some true)
      (hm : PySem.W.mroIn K C (.type "object") = some true) : fL K H (.ref a) (.ref C)
theorem xP {x : V} {u t : Value} (I : Inv X pins σ H s) (rx : RelV x u) (ty : fL X.K H x t) (e : PySem.W.kitOne X.K t c = some b) (h : ∀ tk, Q (.bool b) { s with toks := tk }) :
    wpAny (model X.prog X.w) A (call (.builtin "isinstance") [u, c]) Q E s := by
  cases ty with
  | au => cases (show u = Value.none from rx); exact PySem.W.kia_one PySem.W.kitx_none I.ia True.intro e (fun z => nomatch z) h
  | bl y => cases (show u = Value.bool y from rx); exact PySem.W.kia_one PySem.W.kitx_bool I.ia True.intro e (fun z => nomatch z) h
  | int i => obtain ⟨t, q⟩ := (show ∃ t, u = Value.int i t from rx); cases q; exact PySem.W.kia_one PySem.W.kitx_int I.ia True.intro e (fun z => nomatch z) h
  | str y => obtain ⟨t, q⟩ := (show ∃ t, u = Value.str y t from rx); cases q; exact PySem.W.kia_one PySem.W.kitx_str I.ia True.intro e (fun z => nomatch z) h
  | ve y => obtain ⟨t, q⟩ := (show ∃ t, u = Value.float y t from rx); cases q; exact PySem.W.kia_one PySem.W.kitx_float I.ia True.intro e (fun z => nomatch z) h
  | @lst a xs ea =>
    cases (show u = Value.ref a from rx)
    obtain ⟨_, _, n, _, h1⟩ := (show ObjOk X.prog X.w H s.heap a (.lst xs) from I.hok a _ ea)
    exact PySem.W.kia_one PySem.W.kitx_list I.ia ⟨_, h1, rfl⟩ e (fun z => nomatch z) h
  | @fm a ob xs ea =>
    cases (show u = Value.ref a from rx)
    obtain ⟨_, _, _, n, _, h1⟩ := (show ObjOk X.prog X.w H s.heap a (.fm ob (.lst xs)) from I.hok a _ ea)
    exact PySem.W.kia_one PySem.W.kitx_list I.ia ⟨_, h1, rfl⟩ e (fun z => nomatch z) h
  | @tup a xs ea =>
    cases (show u = Value.ref a from rx)
    obtain ⟨_, _, _, p⟩ := (show ObjOk X.prog X.w H s.heap a (.tup xs) from I.hok a _ ea)
    obtain ⟨o, h1, h2, _⟩ := p
    exact PySem.W.kia_one PySem.W.kitx_tuple I.ia ⟨o, h1, h2⟩ e (fun z => nomatch z) h
  | @dK a aq ea =>
    cases (show u = Value.ref a from rx)
    obtain ⟨_, _, vs, _, p⟩ := (show ObjOk X.prog X.w H s.heap a (.dK aq) from I.hok a _ ea)
    obtain ⟨o, es, ep, h1, h2, _⟩ := p
    exact PySem.W.kia_one PySem.W.kitx_dict I.ia ⟨o, h1, h2.1⟩ e (fun z => nomatch z) h
  | @dT a aq ea =>
    cases (show u = Value.ref a from rx)
    obtain ⟨_, _, xs, _, o, es, ep, h1, h2, _⟩ := (show ObjOk X.prog X.w H s.heap a (.dT aq) from I.hok a _ ea)
    exact PySem.W.kia_one PySem.W.kitx_dict I.ia ⟨o, h1, h2.1⟩ e (fun z => nomatch z) h
  | @ins a C dx fs ea cl ha hn Kh hm =>
    cases (show u = Value.ref a from rx)
    obtain ⟨mA, O, _⟩ := Dz I.hok ea
    obtain ⟨od, J, _⟩ := O.look
    exact PySem.W.kia_one (PySem.W.kitx_own (cl.get _) cl.hd ha hn Kh hm) I.ia J e (fun z => nomatch z) h
end
structure cF (k : Nat) (A : Around) : Prop where
  hd : A.handled = none
  dp : A.depth + 3 * k + 5 < recursionLimit
  un : A.units + 16 * k + 200 < cLine
theorem cF.mono {j k : Nat} {A : Around} (r : cF k A) (h : j ≤ k) : cF j A := ⟨r.hd, by have := r.dp; omega, by have := r.un; omega⟩
theorem cF.deeper {k : Nat} {A : Around} (r : cF (k + 1) A) (env : Env) : cF k (A.deeper env) :=
  ⟨r.hd, by have := r.dp; show A.depth + 1 + 3 * k + 5 < _; omega, by have := r.un; show A.units + 3 + 16 * k + 200 < _; omega⟩
theorem cF.depth {k : Nat} {A : Around} (r : cF k A) : A.depth < recursionLimit := by have := r.dp; omega
theorem cF.units {k : Nat} {A : Around} (r : cF k A) : A.units + 64 < cLine := by have := r.un; omega
noncomputable def LL : TA := fun _ H Q => Q [] H
noncomputable def Jg (ta : TE) (tr : TA) : TA := fun σ H Q => ta σ H fun x H1 => tr σ H1 fun xs H2 => Q (x :: xs) H2
section
variable {X : Cx} {e : Expr} {es : List Expr} {te : TE} {t : TA} {pos : Pos}
theorem FQ : PA X [] LL := ⟨fun _ _ _ _ H Q I h => Calls.spliced_nil ⟨[], H, I, .nil, h⟩⟩
theorem DA (ha : PE X e te) (hr : PA X es t) (hs : starEach (e :: es) X.env = (false, eval e X.env) :: starEach es X.env := by rfl) : PA X (e :: es) (Jg te t) := by
  refine ⟨?_⟩
  intro pos pins s σ H Q I h
  rw [hs]
  show wpAny _ _ (spliced ((false, eval e X.env) :: backTo pos (starEach es X.env))) _ _ s
  refine Calls.spliced_cons (thn (ha pins s σ H _ I h) fun u s1 ⟨x, H1, I1, r1, q1⟩ => ?_)
  exact thn (hr pos pins s1 σ H1 _ I1 q1) fun us s2 ⟨xs, H2, I2, r2, q2⟩ => ⟨x :: xs, H2, I2, .cons r1 r2, q2⟩
noncomputable def LN (t : TA) : TE := fun σ H Q => t σ H fun xs H1 => xs.length ≤ sizeLine ∧ ∀ p, H1 p = none → Q (.ref p) (upd H1 p (.tup xs))
noncomputable def LO (t : TA) : TE := fun σ H Q => t σ H fun xs H1 => xs.length ≤ sizeLine ∧ ∀ p, H1 p = none → Q (.ref p) (upd H1 p (.lst xs))
theorem FR {x1} (h : PA X es t) : PE X (.Tuple es x1 pos) (LN t) := by
  refine ⟨?_⟩
  intro pins s σ H Q I hq
  refine wpAny_Tuple_spliced (thn (h pos pins s σ H _ I hq) fun us s1 ⟨xs, H1, I1, r, z, q⟩ => ⟨by rw [← r.length]; exact z, ?_⟩)
  have hf : H1 s1.heap.objs.size = none := I1.hok.fresh (Nat.le_refl _)
  refine ⟨.ref s1.heap.objs.size, upd H1 s1.heap.objs.size (.tup xs), I1.laid (t' := s1.toks) (fun b u e => Heap.get?_push_of_some _ e) (Nat.le_refl _) ?_, rfl, q _ hf⟩
  exact ⟨z, us, r, ⟨_, Heap.get?_push_size _ rfl, rfl, _, rfl, rfl⟩⟩
theorem xQ (h : PA X es t) : PE X (.List es pos) (LO t) := by
  refine ⟨?_⟩
  intro pins s σ H Q I hq
  refine wpAny_List_spliced (thn (h pos pins s σ H _ I hq) fun us s1 ⟨xs, H1, I1, r, z, q⟩ => ⟨by rw [← r.length]; exact z, ?_⟩)
  have hf : H1 s1.heap.objs.size = none := I1.hok.fresh (Nat.le_refl _)
  refine ⟨.ref s1.heap.objs.size, upd H1 s1.heap.objs.size (.lst xs), I1.laid (t' := s1.toks) (fun b u e => Heap.get?_push_of_some _ e) (Nat.le_refl _) ?_, rfl, q _ hf⟩
  exact ⟨z, us, 0, r, Heap.get?_push_size _ rfl⟩
end
noncomputable abbrev Sp := List V → Hp → VK → XK → Prop
noncomputable abbrev js := List Env → Hp → Shared → XK → Value → Shared → Prop
structure v7 (P : Program) (w : World) (K : PySem.W.Frag) (mg : Str → Option Value) (base : Heap) (A : Around) (outer : List Env) (s : Shared) (H : Hp) : Prop where
  frames : A.frames = some outer
  mod : Mod K mg base
  bs : ∀ b o, base.get? b = some o → s.heap.get? b = some o ∧ H b = none
  bsz : base.objs.size ≤ s.heap.objs.size
  funs : s.heap.FunFrames base outer
  frf : ∀ b ∈ fo outer, H b = none
  hok : cw P w H s.heap
  bare : AllBare s.gens
noncomputable def CE (outer : List Env) (P : Program) (w : World) (H : Hp) (s : Shared) (Q : VK) (u : Value) (s' : Shared) : Prop :=
  ∃ v H', s'.os = s.os ∧ Gn s.gens.size s'.gens ∧ Un (fo outer) [] H H' s.heap s'.heap ∧ cw P w H' s'.heap ∧ RelV v u ∧ Q v H'
noncomputable def CR (CX : js) (outer : List Env) (P : Program) (w : World) (H : Hp) (s : Shared) (Q : VK) (E : XK) (r : Result) (s' : Shared) : Prop :=
  match r with
  | .ok (.ret u) => CE outer P w H s Q u s'
  | .ok _ => False
  | .error e => CX outer H s E e s'
structure FnOk (P : Program) (w : World) (K : PySem.W.Frag) (mg : Str → Option Value) (base : Heap) (CX : js) (k : Nat) (f : Addr) (fd : FuncData) (ps : List Str) (sp : Sp) : Prop where
  len : ∀ vs H Q E, sp vs H Q E → vs.length = ps.length
  run : ∀ (A : Around) (outer : List Env) (s : Shared) (H : Hp) (args : Args) (us : List Value) (vs : List V) (Q : VK) (E : XK), cF k A → v7 P w K mg base A outer s H → BindsTo s fd args (ps.zip us) → Vals vs us → sp vs H Q E →
    codeAny (model P w) A (.call (.ref f) args) (CR CX outer P w H s Q E) s
theorem FnOk.imp {P : Program} {w : World} {K : PySem.W.Frag} {mg : Str → Option Value} {base : Heap} {CX : js} {k : Nat} {f : Addr} {fd : FuncData} {ps : List Str} {sp Ki : Sp} (F : FnOk P w K mg base CX k f fd ps sp)
    (h : ∀ vs H Q E, Ki vs H Q E → sp vs H Q E) : FnOk P w K mg base CX k f fd ps Ki :=
  ⟨fun vs H Q E q => F.len vs H Q E (h _ _ _ _ q), fun A outer s H args us vs Q E hr he hb hv hs => F.run A outer s H args us vs Q E hr he hb hv (h _ _ _ _ hs)⟩
section
variable {X : Cx} {pins : List (Addr × Obj)} {σ : St} {H : Hp} {s s' : Shared}
theorem Inv.LQ (I : Inv X pins σ H s) : v7 X.prog X.w X.K X.mg X.base X.A X.stack s H :=
  ⟨I.ok.frames, I.ok.mod, I.bs, Nat.le_trans I.ok.bsz I.sz, I.stack, I.mG, I.hok, I.bare.1⟩
theorem Inv.after {Q : VK} {u : Value} (I : Inv X pins σ H s) (h : CE X.stack X.prog X.w H s Q u s') : EP X pins σ Q u s' := by
  obtain ⟨v, H', os, bare, un, hok, r, q⟩ := h
  obtain ⟨hh, g, d, t, Kj⟩ := s'
  obtain rfl : Kj = s.os := os
  exact ⟨v, H', I.call (h' := hh) (g' := g) (d' := d) (t' := t) (ch := []) un hok bare (fun b z => absurd z (by simp)), r, q⟩
end
noncomputable def Cg (sp : Sp) (qz : List V) (E : XK) (t : TA) : TE := fun σ H Q => t σ H fun vs H1 => sp (vs ++ qz) H1 Q E
noncomputable def Binds (K : PySem.W.Frag) (fd : FuncData) (ps : List Str) (ds : List Value) : Prop :=
  ∀ (s : Shared) (us : List Value), K.In s.heap → (us ++ ds).length = ps.length → BindsTo s fd ⟨us, []⟩ (ps.zip (us ++ ds))
theorem Binds.all {K : PySem.W.Frag} {fd : FuncData} {ps : List Str} (h : ∀ us : List Value, us.length = ps.length → bindArgs fd ⟨us, []⟩ = pure (ps.zip us)) : Binds K fd ps [] := fun s us _ hl => by
  rw [List.append_nil] at hl ⊢
  exact .of_eq (h us hl)
noncomputable def Passes (CX : js) (X : Cx) (E : XK) : Prop := ∀ (pins : List (Addr × Obj)) (σ : St) (H : Hp) (s : Shared) (e : Value) (s' : Shared), Inv X pins σ H s → CX X.stack H s E e s' → X.xe e s'
section
variable {X : Cx} {CX : js} {k : Nat} {f C : Addr} {fd : FuncData} {ps : List Str} {sp : Sp} {qz : List V} {ds : List Value} {E : XK} {x m : Str} {p pos apos : Pos} {e o : Expr} {es : List Expr} {ta : TE} {t : TA}
theorem FT {pins : List (Addr × Obj)} {σ : St} {H : Hp} {s : Shared} {Q : VK} {us : List Value} {vs : List V} (F : FnOk X.prog X.w X.K X.mg X.base CX k f fd ps sp) (hr : cF k X.A) (hb : Binds X.K fd ps ds) (hd : Vals qz ds) (hx : Passes CX X E)
    (I : Inv X pins σ H s) (r : Vals vs us) (h : sp (vs ++ qz) H Q E) : wpAny (model X.prog X.w) X.A (call (.ref f) us) (EP X pins σ Q) X.xe s := by
  have r2 : Vals (vs ++ qz) (us ++ ds) := r.append hd
  have hl : (us ++ ds).length = ps.length := by rw [← r2.length]; exact F.len _ _ _ _ h
  refine wpAny_call (codeAny_mono (F.run X.A X.stack s H ⟨us, []⟩ (us ++ ds) (vs ++ qz) Q E hr I.LQ (hb s us I.ia hl) r2 h) fun r s' hq => ?_)
  cases r with
  | error e => exact hx pins σ H s e s' I hq
  | ok fl =>
    cases fl with
    | ret u => exact I.after hq
    | next => exact False.elim hq
    | brk => exact False.elim hq
    | cont => exact False.elim hq
theorem DB (F : FnOk X.prog X.w X.K X.mg X.base CX k f fd ps sp) (hr : cF k X.A) (hg : Gl X x) (hm : X.mg x = some (.ref f)) (hk : PySem.W.keepIn X.K (.ref f) = true) (hb : Binds X.K fd ps ds) (hd : Vals qz ds) (hx : Passes CX X E)
    (ha : PA X (e :: es) t) (iX : (x == ("__debug__" : Str)) = false := by decide) (he : starEach (e :: es) X.env = (false, eval e X.env) :: starEach es X.env := by rfl) (fV : (backTo pos (starEach es X.env)).any (·.1) = false := by rfl) :
    PE X (.Call (.Name x p) (e :: es) [] pos) (Cg sp qz E t) := by
  refine ⟨?_⟩
  intro pins s σ H Q I h
  refine wpAny_Call_Name_kw (pK I hg hm ?_ iX)
  refine PySem.W.callWith_K (h₀ := X.base) I.ok.mod.kin hk (thn (ha pos pins s σ H _ I h) fun us s1 ⟨vs, H1, I1, r, q⟩ => ⟨I1.ia, ?_⟩) he fV
  exact FT F hr hb hd hx I1 r q
end
structure aU (N P : List Str) (sc : Scope) : Prop where
  kind : sc.kind = .function
  co : sc.isCoroutine = false
  gen : sc.isGenerator = false
  nd : N.Nodup
  pre : N.take P.length = P
  par : ∀ x ∈ P, sc.names.lookup x = some .local ∨ sc.names.lookup x = some .cell
  nofree : ∀ y ∈ sc.names, y.2 ≠ .free
theorem qA {kindOf : Str → Option NameKind} {x : Str} : ∀ {binds : List (Str × Value)} {m : Str → Option Value}, (∀ v, (x, v) ∉ binds) → bindL kindOf binds m x = m x
  | [], _, _ => rfl
  | (n, v) :: r, m, h => by
    unfold bindL
    rw [qA fun w hw => h w (List.mem_cons_of_mem _ hw)]
    split
    · have : x ≠ n := by rintro rfl; exact h v List.mem_cons_self
      simp [this]
    · rfl
theorem qB {kindOf : Str → Option NameKind} {x : Str} : ∀ {binds : List (Str × Value)} {m : Str → Option Value}, (∀ v, (x, v) ∉ binds) → bindC kindOf binds m x = m x
  | [], _, _ => rfl
  | (n, v) :: r, m, h => by
    unfold bindC
    rw [qB fun w hw => h w (List.mem_cons_of_mem _ hw)]
    split
    · rfl
    · have : x ≠ n := by rintro rfl; exact h v List.mem_cons_self
      simp [this]
theorem qC {kindOf : Str → Option NameKind} {x : Str} {v : Value} : ∀ {P : List Str} {vs : List Value} {i : Nat} {m : Str → Option Value}, P.Nodup → P[i]? = some x → vs[i]? = some v → kindOf x = some .local →
    bindL kindOf (P.zip vs) m x = some v
  | [], _, _, _, _, h, _, _ => by simp at h
  | _ :: _, [], _, _, _, _, h, _ => by simp at h
  | p :: P, w :: vs, 0, m, nd, h1, h2, hk => by
    simp at h1 h2; subst h1; subst h2
    show bindL kindOf ((p, w) :: P.zip vs) m p = _
    unfold bindL
    rw [qA fun v hv => (List.nodup_cons.mp nd).1 (List.of_mem_zip hv).1, if_pos hk]
    simp
  | p :: P, w :: vs, i + 1, m, nd, h1, h2, hk => by
    show bindL kindOf ((p, w) :: P.zip vs) m x = _
    unfold bindL
    exact qC (i := i) (List.nodup_cons.mp nd).2 (by simpa using h1) (by simpa using h2) hk
theorem qD {kindOf : Str → Option NameKind} {x : Str} {v : Value} : ∀ {P : List Str} {vs : List Value} {i : Nat} {m : Str → Option Value}, P.Nodup → P[i]? = some x → vs[i]? = some v → kindOf x ≠ some .local →
    bindC kindOf (P.zip vs) m x = some v
  | [], _, _, _, _, h, _, _ => by simp at h
  | _ :: _, [], _, _, _, _, h, _ => by simp at h
  | p :: P, w :: vs, 0, m, nd, h1, h2, hk => by
    simp at h1 h2; subst h1; subst h2
    show bindC kindOf ((p, w) :: P.zip vs) m p = _
    unfold bindC
    rw [qB fun v hv => (List.nodup_cons.mp nd).1 (List.of_mem_zip hv).1, if_neg hk]
    simp
  | p :: P, w :: vs, i + 1, m, nd, h1, h2, hk => by
    show bindC kindOf ((p, w) :: P.zip vs) m x = _
    unfold bindC
    exact qD (i := i) (List.nodup_cons.mp nd).2 (by simpa using h1) (by simpa using h2) hk
noncomputable def start (N : List Str) (vs : List V) : St := vs.map some ++ List.replicate (N.length - vs.length) none
noncomputable def fM (CX : js) (P : Program) (w : World) (K : PySem.W.Frag) (mg : Str → Option Value) (base : Heap) (N : List Str) (qual : Str) (scope : Scope) (f : Addr) (cd : Value) (A : Around) (outer : List Env) (s : Shared) (H : Hp) (E : XK) : Cx where
  prog := P
  w := w
  K := K
  mg := mg
  base := base
  A := A.deeper (envOfC qual scope s.heap.objs.size f cd)
  N := N
  s₀ := s
  H₀ := H
  env := envOfC qual scope s.heap.objs.size f cd
  outer := outer
  stack := envOfC qual scope s.heap.objs.size f cd :: outer
  ex := []
  calm := true
  fn := fun _ => true
  pn := []
  xe := fun e s' => wpAny (model P w) (A.deeper (envOfC qual scope s.heap.objs.size f cd)) (leaving (envOfC qual scope s.heap.objs.size f cd) e) (fun _ cS => CX outer H s E e cS) (fun e' cS => CX outer H s E e' cS) s'
theorem sm {sc : Scope} {n : Nat} {x : Str} (h : sc.names.lookup x = some .cell) : ∃ c, (cellsFrom n sc.names []).lookup x = some c := by
  have q := PySem.W.cellsFrom_some sc.names n [] (.inl h)
  exact Option.isSome_iff_exists.mp q
theorem xR {CX : js} {P : Program} {w : World} {K : PySem.W.Frag} {mg : Str → Option Value} {base : Heap} {N ps : List Str} {qual : Str} {scope : Scope} {f : Addr} {cd : Value} {A : Around} {outer : List Env} {s s1 : Shared} {H : Hp} {E : XK} {us : List Value} {vs : List V}
    (S : aU N ps scope) (hd : A.handled = none) (e0 : v7 P w K mg base A outer s H) (hl : vs.length = ps.length) (r : Vals vs us)
    (x : InCallC s s.heap.objs.size (bindL (envOfC qual scope s.heap.objs.size f cd).kindOf (ps.zip us) fun _ => none) (cellsFrom (s.heap.objs.size + 1) scope.names []) (bindC (envOfC qual scope s.heap.objs.size f cd).kindOf (ps.zip us) fun _ => none) s1) :
    Inv (fM CX P w K mg base N qual scope f cd A outer s H E) [] (start N vs) H s1 := by
  have fV : ps.length ≤ N.length := by have := congrArg List.length S.pre; rw [List.length_take] at this; omega
  obtain ⟨h1, tk, rfl, hk⟩ := x.done
  have FU : ∀ b : Addr, b ∉ (fM CX P w K mg base N qual scope f cd A outer s H E).ex := fun b z => absurd (show b ∈ ([] : List Addr) from z) (by simp)
  refine ⟨⟨e0.mod, S.kind, rfl, rfl, Nat.le_refl _, fun y z c h1 h2 => ?_, fun y hy => ?_, fun y c _ h => ?_, fun _ => hd, Around.frames_deeper e0.frames, .inr ⟨rfl, rfl⟩, fun b z => absurd z (FU b), e0.bs, e0.bsz, fun b _ _ => FU b, fun b z => absurd z (FU b), e0.funs, e0.frf⟩,
    rfl, ⟨e0.bare, Nat.le_refl _⟩, Un.kept hk, ⟨_, x.toInCall.ns, fun i y v h1 h2 h3 => ?_⟩, fun y c h => ⟨_, x.cell y c h⟩, e0.hok.fresh (Nat.le_refl _), fun y c h => ?_, fun p hp => absurd (show p ∈ ([] : List (Addr × Obj)) from hp) (by simp), e0.hok.kept hk, ?_⟩
  · exact name_of_addr x.apart (PySem.mem_of_lookup h1) (PySem.mem_of_lookup h2)
  · have hy : scope.names.lookup y = some .cell ∨ scope.names.lookup y = some .free := hy
    rcases hy with hy | hy
    · exact sm hy
    · exact absurd rfl (S.nofree _ (PySem.mem_of_lookup hy))
  · exact Nat.le_of_lt (x.above y c (PySem.mem_of_lookup h))
  · have hi : i < vs.length := by
      unfold start at h2
      by_cases hi : i < vs.length
      · exact hi
      · rw [List.getElem?_append_right (by simpa using hi)] at h2
        rw [List.getElem?_replicate] at h2
        split at h2 <;> cases h2
    have ha : vs[i]? = some v := by
      unfold start at h2
      rw [List.getElem?_append_left (by simpa using hi), List.getElem?_map] at h2
      cases e : vs[i]? with
      | none => rw [e] at h2; cases h2
      | some a => rw [e] at h2; cases h2; rfl
    obtain ⟨u, hu, rv⟩ := r.get ha
    have hp : ps[i]? = some y := by
      rw [← S.pre, List.getElem?_take_of_lt (by omega)]; exact h1
    have Kk : ps.Nodup := by rw [← S.pre]; exact S.nd.sublist (List.take_sublist _ _)
    refine ⟨u, rv, ?_⟩
    rcases S.par y (List.mem_of_getElem? hp) with k | k
    · exact .inl ⟨k, qC Kk hp hu k⟩
    · obtain ⟨c, e⟩ := sm (n := s.heap.objs.size + 1) k
      refine .inr ⟨.inl k, c, e, ?_⟩
      have q := x.cell y c e
      rw [qD Kk hp hu (by show scope.names.lookup y ≠ _; rw [k]; decide)] at q
      exact q
  · exact e0.hok.fresh (Nat.le_of_lt (x.above y c (PySem.mem_of_lookup h)))
  · unfold start
    show _ = N.length
    rw [List.length_append, List.length_map, List.length_replicate]
    omega
theorem Ci {CX : js} {P : Program} {w : World} {K : PySem.W.Frag} {mg : Str → Option Value} {base : Heap} {k : Nat} {f : Addr} {name qual : Str} {params : Arguments} {body : List Stmt} {scope : Scope} {dV kV doc pm dN ct oc : Value} {an od : Option Addr}
    {lz : Array (Option Value)} {N ps : List Str} {sp : Sp} (lk : K.lookup f = some ⟨oc, od, .func (PySem.W.fnOf name qual params body scope dV kV doc pm an dN ct), lz⟩) (gd : PySem.W.codeIn K dN qual = true) (S : aU N ps scope)
    (len : ∀ vs H Q E, sp vs H Q E → vs.length = ps.length)
    (ow : ∀ (A : Around) (outer : List Env) (s : Shared) (H : Hp) (vs : List V) (Q : VK) (E : XK), cF k (A.deeper (envOfC qual scope s.heap.objs.size f dN)) → sp vs H Q E →
      ∃ t, fU (fM CX P w K mg base N qual scope f dN A outer s H E) body t ∧ t { nx := fun _ H' => Q .au H', rt := Q } (start N vs) H) :
    FnOk P w K mg base CX (k + 1) f (PySem.W.fnOf name qual params body scope dV kV doc pm an dN ct) ps sp := by
  refine ⟨len, fun A outer s H args us vs Q E hr e0 hb r m6 => ?_⟩
  have hl := len _ _ _ _ m6
  have KX : K.In s.heap := e0.mod.kin.keeps fun b o e => (e0.bs b o e).1
  have lim : s.heap.NoLimit := e0.mod.nolimit.keeps fun b o e => (e0.bs b o e).1
  have mH : ∀ y ∈ ps.zip us, scope.names.lookup y.1 = some .local ∨ (scope.names.lookup y.1 = some .cell ∧ ((cellsFrom (s.heap.objs.size + 1) scope.names []).lookup y.1).isSome = true) := fun ⟨n, v⟩ hy => by
    rcases S.par n (List.of_mem_zip hy).1 with q | q
    · exact .inl q
    · exact .inr ⟨q, PySem.W.cellsFrom_some _ _ _ (.inl q)⟩
  refine codeAny_call_function hr.depth (KX _ _ lk) rfl S.co S.gen rfl (PySem.W.codeRec_of KX gd) (hb _ _ _ _ ?_)
  refine wpAny_newFunctionEnv_cells S.kind mH fun env he s1 x => ?_
  subst he
  refine ⟨lim.keeps x.toInCall.keep, codeAny_func ?_⟩
  obtain ⟨t, ht, hq⟩ := ow A outer s H vs Q E (hr.deeper _) m6
  have I : Inv (fM CX P w K mg base N qual scope f dN A outer s H E) [] (start N vs) H s1 := xR S hr.hd e0 hl r x
  refine wpAny_mono (ht [] s1 (start N vs) H _ I hq) (fun fl s' hs => ?_) fun e s' hs => hs
  have fin : ∀ {aK : St} {H' : Hp} {v : V} {u : Value}, Inv (fM CX P w K mg base N qual scope f dN A outer s H E) [] aK H' s' → RelV v u → Q v H' → CE outer P w H s Q u s' :=
    fun {aK H' v u} J rv q => ⟨v, H', J.os, J.bare, J.base, J.hok, rv, q⟩
  cases fl with
  | ret u =>
    obtain ⟨v, aK, H', J, rv, q⟩ := hs
    exact fin J rv q
  | next =>
    obtain ⟨aK, H', J, q⟩ := hs
    exact fin (v := V.au) (u := Value.none) J rfl q
  | brk =>
    obtain ⟨_, _, _, q⟩ := hs
    exact False.elim q
  | cont =>
    obtain ⟨_, _, _, q⟩ := hs
    exact False.elim q
section
variable {X : Cx} {x : Str} {p pos : Pos} {e : Expr} {es : List Expr} {t : TA} {id T : String} {r : List V → Hp → VK → Prop}
noncomputable def FV (r : List V → Hp → VK → Prop) (t : TA) : TE := fun σ H Q => t σ H fun vs H1 => r vs H1 Q
theorem Ax (hc : cP X (.builtin id) r) (hg : Gl X x) (hm : X.mg x = none) (hv : bootBuiltins x = some (.builtin id)) (ha : PA X (e :: es) t) (hn : x ≠ "__name__" := by decide) (iX : (x == ("__debug__" : Str)) = false := by decide)
    (he : starEach (e :: es) X.env = (false, eval e X.env) :: starEach es X.env := by rfl) (fV : (backTo pos (starEach es X.env)).any (·.1) = false := by rfl) : PE X (.Call (.Name x p) (e :: es) [] pos) (FV r t) := by
  refine ⟨?_⟩
  intro pins s σ H Q I h
  refine wpAny_Call_Name_kw (fx I hg hm hv ?_ hn iX)
  exact PyProof.Rows.callWith_builtin1 (thn (ha pos pins s σ H _ I h) fun us s1 ⟨vs, H1, I1, r1, q1⟩ => hc pins s1 σ H1 vs us Q I1 r1 q1) he fV
theorem xS (hc : cP X (.type T) r) (hg : Gl X x) (hm : X.mg x = none) (hv : bootBuiltins x = some (.type T)) (ha : PA X (e :: es) t) (hn : x ≠ "__name__" := by decide) (iX : (x == ("__debug__" : Str)) = false := by decide)
    (he : starEach (e :: es) X.env = (false, eval e X.env) :: starEach es X.env := by rfl) (fV : (backTo pos (starEach es X.env)).any (·.1) = false := by rfl) : PE X (.Call (.Name x p) (e :: es) [] pos) (FV r t) := by
  refine ⟨?_⟩
  intro pins s σ H Q I h
  refine wpAny_Call_Name_kw (fx I hg hm hv ?_ hn iX)
  exact PyProof.Rows.callWith_type1 (thn (ha pos pins s σ H _ I h) fun us s1 ⟨vs, H1, I1, r1, q1⟩ => hc pins s1 σ H1 vs us Q I1 r1 q1) he fV
end
end L2
namespace HT
open PySem PyProof.Rows
noncomputable def lexLt : List Int → List Int → Bool
  | [], [] => false
  | [], _ :: _ => true
  | _ :: _, [] => false
  | x :: xs, y :: ys => if x = y then lexLt xs ys else decide (x < y)
theorem iH (x y : Int) (xs ys : List Int) : lexLt (x :: xs) (y :: ys) = if x = y then lexLt xs ys else decide (x < y) := rfl
section
variable {prog : Program} {w : World} {A : Around} {E : Value → Shared → Prop} {s : Shared}
noncomputable def iY (n d : Nat) : Option Int → Nat
  | none => d
  | some v => if v < 0 then (v + (n : Int)).toNat else min v.toNat n
end
end HT
namespace L2
open PySem PySem.Spec PyProof.Rows
noncomputable abbrev TO := St → Hp → (Option Int → Hp → Prop) → Prop
section
variable {X : Cx} {e : Expr} {te : TE} {lo hi : Option Expr} {tl th : TO} {pos p2 : Pos}
noncomputable def MO (X : Cx) (r : V → Option Int → Option Int → Hp → VK → Prop) : Prop :=
  ∀ (pins : List (Addr × Obj)) (s : Shared) (σ : St) (H : Hp) (x : V) (v vl vu : Value) (lo hi : Option Int) (sl : Addr) (Q : VK), Inv X pins σ H s → RelV x v → s.heap.IsSliceOf sl vl vu .none → IsPart vl lo → IsPart vu hi → r x lo hi H Q →
    ∃ T id, typeLookup (.type T) "__getitem__" = pure (some (.builtin id)) ∧ s.TypeIs v T ∧ wpAny (model X.prog X.w) X.A (getItem v (.ref sl)) (EP X pins σ Q) X.xe s
noncomputable def v8 (xs : List V) (lo hi : Option Int) : List V := (xs.drop (HT.iY xs.length 0 lo)).take (HT.iY xs.length xs.length hi - HT.iY xs.length 0 lo)
theorem uK (xs : List V) (lo hi : Option Int) : (v8 xs lo hi).length ≤ xs.length := by
  unfold v8
  rw [List.length_take, List.length_drop]
  omega
end
noncomputable def ig (n : Nat) (i : Int) : Option Nat := if 0 ≤ i then (if i < n then some i.toNat else none) else if -(n : Int) ≤ i then some (i + n).toNat else none
noncomputable def c6 {α : Type} (xs : List α) (i : Int) : Option α := (ig xs.length i).bind fun j => xs[j]?
theorem pL {n : Nat} {i : Int} {j : Nat} (h : ig n i = some j) : seqIndex? i n = some j ∧ j < n ∧ -(n : Int) ≤ i ∧ i < n := by
  unfold ig at h
  by_cases h0 : 0 ≤ i
  · rw [if_pos h0] at h
    by_cases h1 : i < n
    · rw [if_pos h1] at h
      have e : i.toNat = j := Option.some.inj h
      exact ⟨by rw [seqIndex_of h0 h1, e], by omega, by omega, h1⟩
    · rw [if_neg h1] at h; cases h
  · rw [if_neg h0] at h
    by_cases h1 : -(n : Int) ≤ i
    · rw [if_pos h1] at h
      have e : (i + n).toNat = j := Option.some.inj h
      exact ⟨by rw [seqIndex_neg (by omega) h1, e], by omega, h1, by omega⟩
    · rw [if_neg h1] at h; cases h
theorem pM {α : Type} {xs : List α} {i : Int} {v : α} (h : c6 xs i = some v) : ∃ j, seqIndex? i xs.length = some j ∧ xs[j]? = some v ∧ j < xs.length ∧ -(xs.length : Int) ≤ i ∧ i < xs.length := by
  unfold c6 at h
  cases e : ig xs.length i with
  | none => rw [e] at h; cases h
  | some j =>
    rw [e] at h
    obtain ⟨h1, h2, h3, h4⟩ := pL e
    exact ⟨j, h1, h, h2, h3, h4⟩
theorem eE {α : Type} {xs : List α} {j : Nat} {v : α} (h : xs[j]? = some v) : c6 xs (j : Int) = some v := by
  have hj : j < xs.length := (List.getElem?_eq_some_iff.mp h).1
  have e : ig xs.length (j : Int) = some j := by
    unfold ig
    rw [if_pos (by omega), if_pos (by omega)]; simp
  unfold c6; rw [e]; exact h
noncomputable def vj (b : Expr) : Prop := ∀ o i, subscripted b false o i = operate [o, i] (getItem o i)
noncomputable def lB (X : Cx) (r : R2) : Prop :=
  ∀ (value slice : Expr) (pins : List (Addr × Obj)) (s : Shared) (σ : St) (H : Hp) (x y : V) (v u : Value) (Q : VK), Inv X pins σ H s → RelV x v → RelV y u → r x y H Q →
    subscripted slice false v u = operate [v, u] (getItem v u) → wpAny (model X.prog X.w) X.A (subscriptTail value slice v u) (EP X pins σ Q) X.xe s
noncomputable def so (X : Cx) (id : String) (r : V → List V → Hp → VK → Prop) : Prop :=
  ∀ (pins : List (Addr × Obj)) (s : Shared) (σ : St) (H : Hp) (x : V) (xs : List V) (v : Value) (us : List Value) (Q : VK), Inv X pins σ H s → RelV x v → Vals xs us → r x xs H Q →
    wpAny (model X.prog X.w) X.A (call (.builtin id) (v :: us)) (EP X pins σ Q) X.xe s
section
variable {X : Cx} {a b : Expr} {ta tb : TE} {pos : Pos}
theorem lB.or {r r' : R2} (h : lB X r) (h' : lB X r') : lB X (fun x y H Q => r x y H Q ∨ r' x y H Q) := by
  intro value slice pins s σ H x y v u Q I rx ry q hs
  rcases q with q | q
  · exact h value slice pins s σ H x y v u Q I rx ry q hs
  · exact h' value slice pins s σ H x y v u Q I rx ry q hs
theorem Jh {r : R2} (hr : lB X r) (ha : PE X a ta) (hb : PE X b tb) (hs : vj b) : PE X (.Subscript a b pos) (xJ r ta tb) := by
  refine ⟨?_⟩
  intro pins s σ H Q I h
  exact Subscript_ (Am ha hb I h fun v u s2 x y H2 I2 rx ry q => hr a b pins s2 σ H2 x y v u Q I2 rx ry q (hs _ _))
noncomputable def FW (K : PySem.W.Frag) : R2 := fun x y H Q => ∃ p xs i v, x = .ref p ∧ y = .int i ∧ bH K H p xs ∧ c6 xs i = some v ∧ Q v H
noncomputable def FX (K : PySem.W.Frag) : R2 := fun x y H Q => ∃ p xs i v, x = .ref p ∧ y = .int i ∧ cN K H p xs ∧ c6 xs i = some v ∧ Q v H
noncomputable def FY : R2 := fun x y H Q => ∃ z i c, x = .str z ∧ y = .int i ∧ z.length ≤ sizeLine ∧ c6 z.cps.toList i = some c ∧ Q (.str ⟨#[c]⟩) H
theorem DC : lB X (FW X.K) := by
  intro value slice pins s σ H x y v u Q I rx ry h hs
  obtain ⟨p, xs, i, z, rfl, rfl, hq, he, q⟩ := h
  cases rx
  obtain ⟨t, rfl⟩ := ry
  obtain ⟨its, r, pl, hz⟩ := I.list hq
  obtain ⟨j, h1, h2, h3, h4, h5⟩ := pM he
  obtain ⟨w, ew, eW⟩ := r.get h2
  have hl := r.length
  have hn := jV
  have fin : EP X pins σ Q w s := ⟨z, H, I, eW, q⟩
  by_cases h0 : 0 ≤ i
  · have hj : i.toNat = j := by
      rw [seqIndex_of h0 h5] at h1
      exact Option.some.inj h1
    exact item_listR pl.isList h0 (by omega) (by rw [hj]; simpa using ew) fin hs
  · have hj : (i + (its.toArray.size : Int)).toNat = j := by
      rw [seqIndex_neg (by omega) h4] at h1
      rw [List.size_toArray, ← hl]
      exact Option.some.inj h1
    exact subscriptTail_builtinR (x := w) pl.isList.typeIs slot_list_getitem.lookup
      (wpAny_getItem_list_neg (Q := fun r s' => r = w ∧ EP X pins σ Q r s') pl.isList (by omega) (by rw [List.size_toArray] <;> omega) (by omega) (by rw [hj]; simpa using ew) ⟨rfl, fin⟩) hs
theorem FZ : lB X (FX X.K) := by
  intro value slice pins s σ H x y v u Q I rx ry h hs
  obtain ⟨p, xs, i, z, rfl, rfl, hq, he, q⟩ := h
  cases rx
  obtain ⟨t, rfl⟩ := ry
  obtain ⟨its, r, pl, hz⟩ := I.tuple hq
  obtain ⟨j, h1, h2, h3, h4, h5⟩ := pM he
  obtain ⟨w, ew, eW⟩ := r.get h2
  have hl := r.length
  have hn := jV
  have fin : EP X pins σ Q w s := ⟨z, H, I, eW, q⟩
  exact subscriptTail_builtinR (x := w) pl.typeIs slot_tuple_getitem.lookup
    (getItem_tuple (j := j) (Q := fun r s' => r = w ∧ EP X pins σ Q r s') pl (by omega) (by omega) (by rw [List.size_toArray, ← hl]; exact h1) (by simpa using ew) ⟨rfl, fin⟩) hs
theorem F0 : lB X FY := by
  intro value slice pins s σ H x y v u Q I rx ry h hs
  obtain ⟨z, i, c, rfl, rfl, hz, he, q⟩ := h
  obtain ⟨t, rfl⟩ := rx
  obtain ⟨t', rfl⟩ := ry
  obtain ⟨j, h1, h2, h3, h4, h5⟩ := pM he
  have hl : z.cps.toList.length = z.length := by simp [Str.length]
  rw [hl] at h1 h4 h5
  have hn := jV
  exact tail_any (typeIs_str s z t) slot_str_getitem.lookup (getItem_str (c := c) (by
    have e1 : decide (i < -(2 ^ 63 : Int)) = false := decide_eq_false (by omega)
    have e2 : decide (i ≥ 2 ^ 63) = false := decide_eq_false (by omega)
    rw [e1, e2, Bool.or_false]) (by rw [h1]; simpa using h2) ⟨.str ⟨#[c]⟩, H, I.tok _, ⟨_, rfl⟩, q⟩) hs
noncomputable def Km (K : PySem.W.Frag) : R2 := fun x y H Q => FW K x y H Q ∨ FX K x y H Q ∨ FY x y H Q
theorem F1 : lB X (Km X.K) := DC.or (FZ.or F0)
theorem wa (its : List Value) (n j : Nat) (u : Value) : Obj.mapSeq (·.setIfInBounds j u) { cls := .type "list", data := .seq its.toArray n } = { cls := .type "list", data := .seq (its.set j u).toArray n } := by
  simp [Obj.mapSeq]
theorem Inv.lst {pins : List (Addr × Obj)} {σ : St} {H : Hp} {s : Shared} {p : Addr} {xs : List V} (I : Inv X pins σ H s) (h : H p = some (.lst xs)) :
    ∃ (its : List Value) (n : Nat), Vals xs its ∧ s.heap.get? p = some { cls := .type "list", data := .seq its.toArray n } ∧ xs.length ≤ sizeLine := by
  obtain ⟨z, its, n, r, e⟩ := I.hok p _ h
  exact ⟨its, n, r, e, z⟩
theorem Inv.F2 {pins : List (Addr × Obj)} {σ : St} {H : Hp} {s : Shared} {p : Addr} {xs ys : List V} {its its' : List Value} {n n' : Nat} {f : Obj → Obj} (I : Inv X pins σ H s) (h : H p = some (.lst xs))
    (ho : s.heap.get? p = some { cls := .type "list", data := .seq its.toArray n }) (hf : f { cls := .type "list", data := .seq its.toArray n } = { cls := .type "list", data := .seq its'.toArray n' }) (r : Vals ys its') (hz : ys.length ≤ sizeLine) (t : Nat) :
    Inv X pins σ (upd H p (.lst ys)) { s with heap := s.heap.update p f, toks := t } := by
  have e : (s.heap.update p f).get? p = some { cls := .type "list", data := .seq its'.toArray n' } := by
    rw [Heap.get?_update_self f ho (by rw [hf] <;> rfl), hf]
  refine I.write (x := p) (e := p) (by rw [h]; trivial) (.inl rfl) (fun b u hb q => (Heap.get?_update_other _ _ (Ne.symm hb)).trans q) ⟨_, e⟩ ?_
  exact ⟨hz, its', n', r, e⟩
noncomputable def Ji : V → V → V → Hp → (Hp → Prop) → Prop := fun o i v H Q => ∃ p xs k j, o = .ref p ∧ i = .int k ∧ H p = some (.lst xs) ∧ ig xs.length k = some j ∧ Q (upd H p (.lst (xs.set j v)))
theorem set_list : Fo X Ji := by
  intro pins s σ H o i v ov iv u Q I ro ri rv h
  obtain ⟨p, xs, k, j, rfl, rfl, hp, hj, q⟩ := h
  cases ro
  obtain ⟨t, rfl⟩ := ri
  obtain ⟨its, n, r, ho, hz⟩ := I.lst hp
  obtain ⟨h1, h2, h3, h4⟩ := pL hj
  have hl := r.length
  have hn := jV
  have I' : Inv X pins σ (upd H p (.lst (xs.set j v))) { s with heap := s.heap.update p (Obj.mapSeq (·.setIfInBounds j u)) } :=
    I.F2 hp ho (wa its n j u) (r.set rv j) (by rw [List.length_set]; exact hz) s.toks
  by_cases h0 : 0 ≤ k
  · have hk : k.toNat = j := by
      rw [seqIndex_of h0 h4] at h1
      exact Option.some.inj h1
    exact PySem.W.ki_setAt ho h0 (by omega) (by rw [List.size_toArray, ← hl]; exact h4) (by rw [hk]; exact ⟨_, I', q⟩)
  · have hk : (k + (its.toArray.size : Int)).toNat = j := by
      rw [seqIndex_neg (by omega) h3] at h1
      rw [List.size_toArray, ← hl]
      exact Option.some.inj h1
    exact PySem.W.ki_setBack ho (by omega) (by rw [List.size_toArray, ← hl]; exact h3) (by omega) (by rw [hk]; exact ⟨_, I', q⟩)
theorem sr (lo hi : Option Int) (n : Nat) : (sliceBounds lo hi none n).1 = ((HT.iY n 0 lo : Nat) : Int) ∧ (sliceBounds lo hi none n).2.1 = ((HT.iY n n hi : Nat) : Int) ∧ (sliceBounds lo hi none n).2.2 = 1 := by
  refine ⟨?_, ?_, rfl⟩
  · cases lo with
    | none => simp [sliceBounds, HT.iY]
    | some i =>
      simp only [sliceBounds, HT.iY, Option.getD_none, show (1 : Int) > 0 by decide, if_true]
      by_cases h : i < 0
      · simp only [h, if_true] <;> omega
      · simp only [h, if_false] <;> omega
  · cases hi with
    | none => simp [sliceBounds, HT.iY]
    | some i =>
      simp only [sliceBounds, HT.iY, Option.getD_none, show (1 : Int) > 0 by decide, if_true]
      by_cases h : i < 0
      · simp only [h, if_true] <;> omega
      · simp only [h, if_false] <;> omega
theorem rC (its : List Value) (lo hi : Option Int) : slicePick its.toArray lo hi none = ((its.drop (HT.iY its.length 0 lo)).take (HT.iY its.length its.length hi - HT.iY its.length 0 lo)).toArray := by
  obtain ⟨h1, h2, h3⟩ := sr lo hi its.toArray.size
  unfold slicePick
  rw [h1, h2, h3]
  simp only [sliceRange_one, pick_run, List.size_toArray] <;> rfl
noncomputable def LR (K : PySem.W.Frag) : V → Option Int → Option Int → Hp → VK → Prop := fun x lo hi H Q => ∃ a xs, x = .ref a ∧ bH K H a xs ∧ ∀ p, H p = none → Q (.ref p) (upd H p (.lst (v8 xs lo hi)))
theorem MD : MO X (LR X.K) := by
  intro pins s σ H x v vl vu lo hi sl Q I rx hs pl pu h
  obtain ⟨a, xs, rfl, hx, q⟩ := h
  cases rx
  obtain ⟨its, r, ht, hz⟩ := I.list hx
  have hlen := r.length
  refine ⟨"list", _, slot_list_getitem.lookup, ht.isList.typeIs, ?_⟩
  refine wpAny_getItem_list_slice ht.isList hs pl pu .none (by simp) ?_ (by rw [List.size_toArray] <;> omega)
  rw [rC, ← hlen]
  refine ⟨.ref s.heap.objs.size, _, I.laid (t' := s.toks) (o := .lst (v8 xs lo hi)) (fun b ob q => Heap.get?_push_of_some _ q) (Nat.le_refl _) ?_, rfl, q _ (I.hok.fresh (Nat.le_refl _))⟩
  exact ⟨Nat.le_trans (uK xs lo hi) hz, _, 0, (r.drop (HT.iY xs.length 0 lo)).take (HT.iY xs.length xs.length hi - HT.iY xs.length 0 lo), Heap.get?_push_size _ rfl⟩
theorem su : cP X (.type "list") (fun xs H Q => ∃ p ys, xs = [.ref p] ∧ (bH X.K H p ys ∨ cN X.K H p ys) ∧ ∀ l, H l = none → Q (.ref l) (upd H l (.lst ys))) := by
  intro pins s σ H xs us Q I r h
  obtain ⟨p, ys, rfl, hq, q⟩ := h
  obtain ⟨u, rfl, rx⟩ := vals1 r
  cases rx
  have fin : ∀ (its : List Value), Vals ys its → ys.length ≤ sizeLine → ∀ (h' : Heap) (c' : Nat), (∀ b o', s.heap.get? b = some o' → h'.get? b = some o') →
      h'.get? s.heap.objs.size = some { cls := .type "list", dict := none, data := .seq its.toArray c', slots := #[] } → EP X pins σ Q (.ref s.heap.objs.size) { s with heap := h' } := fun its r' hz h' c' kp e =>
    ⟨.ref s.heap.objs.size, _, I.laid (t' := s.toks) kp (Nat.le_refl _) (show ObjOk X.prog X.w _ h' _ (.lst ys) from ⟨hz, its, c', r', e⟩), rfl, q _ (I.hok.fresh (Nat.le_refl _))⟩
  rcases hq with hq | hq
  · obtain ⟨its, r', pl, hz⟩ := I.list hq
    have hlen := r'.length
    obtain ⟨o, ho, hc, n, hd⟩ := pl.isList
    exact call_list_seq p (.inl rfl) ho hc hd (fun h' c' kp e => fin its r' hz h' c' kp e) (by simp only [List.size_toArray] <;> omega)
  · obtain ⟨its, r', pl, hz⟩ := I.tuple hq
    have hlen := r'.length
    obtain ⟨o, ho, hc, n, hd⟩ := pl
    exact call_list_seq p (.inr rfl) ho hc hd (fun h' c' kp e => fin its r' hz h' c' kp e) (by simp only [List.size_toArray] <;> omega)
theorem rD : cP X (.type "tuple") (fun xs H Q => ∃ p ys, xs = [.ref p] ∧ ((bH X.K H p ys ∧ ∀ l, H l = none → Q (.ref l) (upd H l (.tup ys))) ∨ (cN X.K H p ys ∧ Q (.ref p) H))) := by
  intro pins s σ H xs us Q I r h
  obtain ⟨p, ys, rfl, h⟩ := h
  obtain ⟨u, rfl, rx⟩ := vals1 r
  cases rx
  rcases h with ⟨hq, q⟩ | ⟨hq, q⟩
  · obtain ⟨its, r', pl, hz⟩ := I.list hq
    have hlen := r'.length
    refine call_tuple_list pl.isList (fun h' kp => ?_) (by simp only [List.size_toArray] <;> omega)
    have I1 : Inv X pins σ H { s with heap := h' } := I.kept (t' := s.toks) kp
    have I2 : Inv X pins σ (upd H h'.objs.size (.tup ys)) { s with heap := h'.push { cls := .type "tuple", data := .seq its.toArray } } :=
      I1.laid (t' := s.toks) (fun b o e => Heap.get?_push_of_some _ e) (Nat.le_refl _) (show ObjOk X.prog X.w _ _ _ (.tup ys) from ⟨hz, its, r', kb.new _ _⟩)
    exact ⟨.ref h'.objs.size, _, I2, rfl, q _ (I1.hok.fresh (Nat.le_refl _))⟩
  · obtain ⟨its, r', pl, hz⟩ := I.tuple hq
    exact call_tuple_same pl ⟨.ref p, H, I, rfl, q⟩
noncomputable def Cj (K : PySem.W.Frag) (T : String) (x : V) (H : Hp) : Prop := match x with
  | .str _ => T = "str"
  | .int _ => T = "int"
  | .ref p => (T = "list" ∧ ∃ xs, bH K H p xs) ∨ (T = "tuple" ∧ ((∃ o, K.lookup p = some o ∧ o.cls = .type "tuple" ∧ o.dict = none) ∨ ∃ xs, H p = some (.tup xs))) ∨
      (T = "dict" ∧ ((∃ aq, H p = some (.dK aq)) ∨ ∃ aq, H p = some (.dT aq))) ∨ (T = "set" ∧ ∃ S n, H p = some (.set S n))
  | _ => False
theorem xT {pins : List (Addr × Obj)} {σ : St} {H : Hp} {s : Shared} {T : String} {x : V} {v : Value} (I : Inv X pins σ H s) (r : RelV x v) (ty : Cj X.K T x H) :
    s.TypeIs v T ∧ ∀ a, v = .ref a → ∃ ob, s.heap.get? a = some ob ∧ ob.dict = none := by
  cases x with
  | str z =>
    obtain ⟨t, rfl⟩ := r
    cases (show T = "str" from ty)
    exact ⟨typeIs_str s z t, fun _ e => nomatch e⟩
  | int i =>
    obtain ⟨t, rfl⟩ := r
    cases (show T = "int" from ty)
    exact ⟨typeIs_int s i t, fun _ e => nomatch e⟩
  | ref p =>
    cases r
    rcases ty with ⟨rfl, xs, hq⟩ | ⟨rfl, ⟨o, hk, hc, hd⟩ | ⟨xs, hk⟩⟩ | ⟨rfl, hk⟩ | ⟨rfl, S, n, hk⟩
    · obtain ⟨its, _, pl, _⟩ := I.list hq
      refine ⟨pl.isList.typeIs, fun a e => ?_⟩
      cases e
      obtain ⟨o, n, e, c, hd, _⟩ := pl
      exact ⟨o, e, hd⟩
    · refine ⟨⟨o, I.ia p o hk, hc⟩, fun a e => ?_⟩
      cases e
      exact ⟨o, I.ia _ o hk, hd⟩
    · obtain ⟨_, its, _, o, e, c, n, d, hd⟩ := I.hok p _ hk
      refine ⟨⟨o, e, c⟩, fun a e2 => ?_⟩
      cases e2
      exact ⟨o, e, hd⟩
    · have z : ∃ o, s.heap.get? p = some o ∧ o.ExactDict := by
        rcases hk with ⟨aq, hk⟩ | ⟨aq, hk⟩
        · obtain ⟨_, _, _, _, o, _, _, e, ex, _⟩ := I.hok p _ hk
          exact ⟨o, e, ex⟩
        · obtain ⟨_, _, _, _, o, _, _, e, ex, _⟩ := I.hok p _ hk
          exact ⟨o, e, ex⟩
      obtain ⟨o, e, ex⟩ := z
      refine ⟨⟨o, e, ex.1⟩, fun a e2 => ?_⟩
      cases e2
      exact ⟨o, e, ex.2.1⟩
    · obtain ⟨o, _, _, _, e, ex, _⟩ := I.hok p _ hk
      refine ⟨⟨o, e, ex.1⟩, fun a e2 => ?_⟩
      cases e2
      exact ⟨o, e, ex.2.1⟩
  | _ => exact False.elim ty
noncomputable def F3 (K : PySem.W.Frag) (T : String) (r : V → List V → Hp → VK → Prop) (to : TE) : TE := fun σ H Q => to σ H fun x H1 => Cj K T x H1 ∧ r x [] H1 Q
noncomputable def Kn (K : PySem.W.Frag) (T : String) (r : V → List V → Hp → VK → Prop) (to : TE) (t : TA) : TE := fun σ H Q => to σ H fun x H1 => Cj K T x H1 ∧ t σ H1 fun xs H2 => r x xs H2 Q
variable {o e : Expr} {es : List Expr} {to : TE} {t : TA} {name : Str} {apos aO : Pos} {T id : String} {r : V → List V → Hp → VK → Prop}
theorem F4 (pa : PlainAttrs T) (slot : Slot T name id) (iZ : typeOf (.builtin id) = pure (.type "method_descriptor")) (hm : so X id r) (ho : PE X o to)
    (ej : attributeBase o name X.env (eval o X.env) = eval o X.env := by rfl) (hline : (apos.endLine == aO.line) = true := by rfl) : PE X (.Call (.Attribute o name apos) [] [] aO) (F3 X.K T r to) := by
  refine ⟨?_⟩
  intro pins s σ H Q I h
  refine wpAny_Call_method0_late ej hline (thn (ho pins s σ H _ I h) fun v s1 ⟨x, H1, I1, r1, ty, q1⟩ => ?_)
  obtain ⟨h1, h2⟩ := xT I1 r1 ty
  exact ⟨T, id, pa, slot, iZ, h1, h2, Calls.callWith_builtin rfl (PySem.evalArgs_none (hm pins s1 σ H1 x [] v [] Q I1 r1 .nil q1))⟩
theorem Jj (pa : PlainAttrs T) (slot : Slot T name id) (iZ : typeOf (.builtin id) = pure (.type "method_descriptor")) (hm : so X id r) (ho : PE X o to) (ha : PA X (e :: es) t)
    (ej : attributeBase o name X.env (eval o X.env) = eval o X.env := by rfl)
    (kf : ((backTo aO (starEach (e :: es) X.env)).all (fun x => !x.1) && (backToKw aO (keywordEach [] X.env)).all (fun x => x.1.isSome)
      && decide ((e :: es).length + ([] : List Keyword).length + (if ([] : List Keyword).isEmpty then 0 else 1) < 30)) = true := by rfl)
    (hline : (apos.endLine == aO.line) = true := by rfl) (hs : starEach (e :: es) X.env = (false, eval e X.env) :: starEach es X.env := by rfl) (gh : (backTo aO (starEach es X.env)).any (·.1) = false := by rfl) :
    PE X (.Call (.Attribute o name apos) (e :: es) [] aO) (Kn X.K T r to t) := by
  refine ⟨?_⟩
  intro pins s σ H Q I h
  refine wpAny_Call_method_late ej kf hline rfl (thn (ho pins s σ H _ I h) fun v s1 ⟨x, H1, I1, r1, ty, q1⟩ => ?_)
  obtain ⟨h1, h2⟩ := xT I1 r1 ty
  refine ⟨T, id, pa, slot, iZ, h1, h2, ?_⟩
  have hA := ha aO pins s1 σ H1 _ I1 q1
  rw [hs] at hA ⊢
  refine Calls.callWith_builtin (by show (false || (backTo aO (starEach es X.env)).any (·.1)) = false; rw [gh] <;> rfl) (Calls.evalArgs_plain ?_)
  exact thn hA fun us s2 ⟨vs, H2, I2, r2, q2⟩ => hm pins s2 σ H2 x vs v us Q I2 r1 r2 q2
end
noncomputable def xU (X : Cx) (id : String) (r : V → List V → Hp → VK → Prop) : Prop :=
  ∀ (pins : List (Addr × Obj)) (s : Shared) (σ : St) (H : Hp) (x : V) (xs : List V) (v : Value) (us : List Value) (Q : VK), Inv X pins σ H s → RelV x v → Vals xs us → r x xs H Q →
    wpAny (model X.prog X.w) X.A (call (.builtin id) (v :: us)) (EP X pins σ Q) X.xe s
theorem Vals.one : ∀ {x : V} {us : List Value}, Vals [x] us → ∃ u, us = [u] ∧ RelV x u
  | _, _, .cons r .nil => ⟨_, rfl, r⟩
theorem Vals.zero : ∀ {us : List Value}, Vals [] us → us = []
  | _, .nil => rfl
theorem Vals.dropLast {xs : List V} {us : List Value} (h : Vals xs us) : Vals xs.dropLast us.dropLast := by
  induction h with
  | nil => exact .nil
  | cons r t ih =>
    cases t with
    | nil => exact .nil
    | cons q t' => exact .cons r ih
theorem Vals.eraseIdx : ∀ {xs : List V} {us : List Value} (i : Nat), Vals xs us → Vals (xs.eraseIdx i) (us.eraseIdx i)
  | _, _, _, .nil => .nil
  | _, _, 0, .cons _ t => t
  | _, _, i + 1, .cons r t => .cons r (Vals.eraseIdx i t)
theorem wc {α : Type} (l : List α) : l.eraseIdx (l.length - 1) = l.dropLast := by
  induction l with
  | nil => rfl
  | cons a r ih =>
    cases r with
    | nil => rfl
    | cons b r =>
      have e : (a :: b :: r).length - 1 = ((b :: r).length - 1) + 1 := by
        have h1 : (a :: b :: r).length = r.length + 2 := rfl
        have h2 : (b :: r).length = r.length + 1 := rfl
        omega
      rw [e, List.eraseIdx_cons_succ, ih]
      all_goals rfl
theorem qE {α : Type} : ∀ (l : List α) (i : Nat), (l.eraseIdx i).length ≤ l.length
  | [], _ => Nat.le_refl _
  | _ :: _, 0 => Nat.le_succ _
  | _ :: r, i + 1 => Nat.succ_le_succ (qE r i)
section
variable {X : Cx} {pins : List (Addr × Obj)} {σ : St} {H : Hp} {s : Shared} {l b : Addr} {xs ys zs : List V}
theorem Inv.sv {its its' : List Value} {n : Nat} {f : Array Value → Array Value} {t' : Nat} (I : Inv X pins σ H s) (hH : H l = some (.lst xs))
    (e : s.heap.get? l = some { cls := .type "list", data := .seq its.toArray n }) (hf : f its.toArray = its'.toArray) (hv : Vals ys its') (hz : ys.length ≤ sizeLine) :
    Inv X pins σ (upd H l (.lst ys)) { s with heap := s.heap.update l (Obj.mapSeq f), toks := t' } := by
  have q := PySem.IsL.update e f
  rw [hf] at q
  refine I.write (x := l) (e := l) (by rw [hH]; exact trivial) (.inl rfl) (fun b' u hb hu => (Heap.get?_update_other s.heap (Obj.mapSeq f) (Ne.symm hb)).trans hu) ⟨_, q⟩ ?_
  exact ⟨hz, its', _, hv, q⟩
theorem Inv.LU {its : List Value} {t' : Nat} (I : Inv X pins σ H s) (hv : Vals ys its) (hz : ys.length ≤ sizeLine) :
    Inv X pins σ (upd H s.heap.objs.size (.lst ys)) { s with heap := s.heap.push { cls := .type "list", data := .seq its.toArray }, toks := t' } :=
  I.laid (fun _ _ q => Heap.get?_push_of_some _ q) (Nat.le_refl _) ⟨hz, its, 0, hv, Heap.get?_push_size _ rfl⟩
theorem Inv.fresh (I : Inv X pins σ H s) : H s.heap.objs.size = none := I.hok.fresh (Nat.le_refl _)
theorem Inv.lC (I : Inv X pins σ H s) (hH : H l = some (.lst xs)) : xs.length ≤ sizeLine ∧ ∃ (its : List Value) (n : Nat), Vals xs its ∧ xs.length = its.length ∧ s.heap.get? l = some { cls := .type "list", data := .seq its.toArray n } := by
  obtain ⟨z, its, n, r, e⟩ := I.hok l _ hH
  exact ⟨z, its, n, r, r.length, e⟩
theorem Ay {n : Nat} (h : n ≤ sizeLine) : Builtin.List.listTooLong n = false := by
  unfold Builtin.List.listTooLong
  exact decide_eq_false (by omega)
end
section
variable {X : Cx}
noncomputable def DE : V → List V → Hp → VK → Prop := fun x vs H Q => ∃ l xs y, x = .ref l ∧ vs = [y] ∧ H l = some (.lst xs) ∧ xs.length < sizeLine ∧ Q .au (upd H l (.lst (xs ++ [y])))
theorem jt : xU X "list.append" DE := by
  intro pins s σ H x vs v us Q I rx rv h
  obtain ⟨l, xs, y, rfl, rfl, hH, hz, q⟩ := h
  cases rx
  obtain ⟨u, rfl, ru⟩ := rv.one
  obtain ⟨z, its, n, r, hl, e⟩ := I.lC hH
  refine call_meets F.slot_list_append ⟨_, e, rfl⟩ F.entry_list_append (F.args_list_append_2 _ _) (PySem.list_append l its.toArray n u (by rw [List.size_toArray]; omega)) ⟨e, ?_⟩
  refine ⟨.au, _, I.sv (its' := its ++ [u]) hH e (by simp) (r.append (.cons ru .nil)) ?_, rfl, q⟩
  rw [List.length_append, List.length_singleton]
  omega
noncomputable def DF : V → List V → Hp → VK → Prop := fun x vs H Q => ∃ l b xs zs, x = .ref l ∧ vs = [.ref b] ∧ H l = some (.lst xs) ∧ H b = some (.lst zs) ∧ xs.length + zs.length ≤ sizeLine ∧ Q .au (upd H l (.lst (xs ++ zs)))
theorem xV : xU X "list.extend" DF := by
  intro pins s σ H x vs v us Q I rx rv h
  obtain ⟨l, b, xs, zs, rfl, rfl, hH, hB, hz, q⟩ := h
  cases rx
  obtain ⟨u, rfl, ru⟩ := rv.one
  cases ru
  obtain ⟨z, its, n, r, hl, e⟩ := I.lC hH
  obtain ⟨z2, cQ, n2, r2, ju, e2⟩ := I.lC hB
  have hsz : its.toArray.size + cQ.toArray.size ≤ sizeLine := by rw [List.size_toArray, List.size_toArray]; omega
  have Jk : ¬ (!its.toArray.isEmpty && Builtin.List.listTooLong (its.toArray.size + cQ.toArray.size)) = true := by
    rw [Ay hsz, Bool.and_false]
    exact Bool.false_ne_true
  refine call_meets F.slot_list_extend ⟨_, e, rfl⟩ F.entry_list_extend (F.args_list_extend_2 _ _)
    (AutoSeq1.list_extend_list_list_0 l its.toArray n b cQ.toArray n2 Jk (by rw [List.size_toArray]; omega) (by omega)) ⟨e, e2, ?_⟩
  refine ⟨.au, _, I.sv (its' := its ++ cQ) hH e (by simp) (r.append r2) ?_, rfl, q⟩
  rw [List.length_append]
  omega
noncomputable def LV : V → List V → Hp → VK → Prop := fun x vs H Q => ∃ l xs y, x = .ref l ∧ vs = [] ∧ H l = some (.lst xs) ∧ xs[xs.length - 1]? = some y ∧ Q y (upd H l (.lst xs.dropLast))
theorem F5 : xU X "list.pop" LV := by
  intro pins s σ H x vs v us Q I rx rv h
  obtain ⟨l, xs, y, rfl, rfl, hH, hy, q⟩ := h
  cases rx
  have F6 := rv.zero
  subst F6
  obtain ⟨z, its, n, r, hl, e⟩ := I.lC hH
  obtain ⟨u, hu, ru⟩ := r.get hy
  have F7 : its.toArray[its.toArray.size - 1]? = some u := by
    show its.toArray[its.length - 1]? = some u
    rw [← Array.getElem?_toList, ← hl]
    exact hu
  refine call_meets F.slot_list_pop ⟨_, e, rfl⟩ F.entry_list_pop (F.args_list_pop_1 _) (MeetsSeq.list_pop_last l its.toArray n u F7 (by rw [List.size_toArray]; omega)) ⟨e, ?_⟩
  refine ⟨y, _, I.sv (its' := its.dropLast) hH e ?_ r.dropLast ?_, ru, q⟩
  · show its.toArray.eraseIdxIfInBounds (its.toArray.size - 1) = its.dropLast.toArray
    rw [List.size_toArray, List.eraseIdxIfInBounds_toArray, wc]
  · rw [List.length_dropLast]
    omega
noncomputable def F8 : V → List V → Hp → VK → Prop := fun x vs H Q => ∃ l xs i k y, x = .ref l ∧ vs = [.int i] ∧ H l = some (.lst xs) ∧ -(2 ^ 63) ≤ i ∧ i < 2 ^ 63 ∧ seqIndex? i xs.length = some k ∧ xs[k]? = some y ∧ Q y (upd H l (.lst (xs.eraseIdx k)))
theorem Az : xU X "list.pop" F8 := by
  intro pins s σ H x vs v us Q I rx rv h
  obtain ⟨l, xs, i, k, y, rfl, rfl, hH, h1, h2, hk, hy, q⟩ := h
  cases rx
  obtain ⟨u, rfl, ru⟩ := rv.one
  obtain ⟨t, rfl⟩ := ru
  obtain ⟨z, its, n, r, hl, e⟩ := I.lC hH
  obtain ⟨w, hw, eW⟩ := r.get hy
  refine call_meets F.slot_list_pop ⟨_, e, rfl⟩ F.entry_list_pop (F.args_list_pop_2 _ _)
    (MeetsSeq.list_pop_at l its.toArray n i t k w (fitsIndex_both h1 h2) (by rw [List.size_toArray, ← hl]; exact hk) (by rw [← Array.getElem?_toList]; exact hw) (by rw [List.size_toArray]; omega)) ⟨e, ?_⟩
  refine ⟨y, _, I.sv (its' := its.eraseIdx k) hH e ?_ (r.eraseIdx k) ?_, eW, q⟩
  · show its.toArray.eraseIdxIfInBounds k = (its.eraseIdx k).toArray
    rw [List.eraseIdxIfInBounds_toArray]
  · have := qE xs k
    omega
noncomputable def F9 : V → List V → Hp → VK → Prop := fun x vs H Q => ∃ l xs, x = .ref l ∧ vs = [] ∧ H l = some (.lst xs) ∧ Q .au (upd H l (.lst []))
theorem AA : xU X "list.clear" F9 := by
  intro pins s σ H x vs v us Q I rx rv h
  obtain ⟨l, xs, rfl, rfl, hH, q⟩ := h
  cases rx
  have F6 := rv.zero
  subst F6
  obtain ⟨z, its, n, r, hl, e⟩ := I.lC hH
  refine call_meets F.slot_list_clear ⟨_, e, rfl⟩ F.entry_list_clear (F.args_list_clear_1 _) (AutoSeq1.list_clear_list_0 l its.toArray n (by rw [List.size_toArray]; omega)) ⟨e, ?_⟩
  exact ⟨.au, _, I.sv (its' := []) (ys := []) hH e rfl .nil (Nat.zero_le _), rfl, q⟩
noncomputable def LX : R2 := fun x y H Q => ∃ l b xs zs, x = .ref l ∧ y = .ref b ∧ H l = some (.lst xs) ∧ H b = some (.lst zs) ∧ xs.length + zs.length ≤ sizeLine ∧ ∀ p, H p = none → Q (.ref p) (upd H p (.lst (xs ++ zs)))
theorem Ga : OpR X (binaryOp .Add) LX := by
  intro pins s σ H x y v u Q I rx ry h
  obtain ⟨l, b, xs, zs, rfl, rfl, hH, hB, hz, q⟩ := h
  cases rx
  cases ry
  obtain ⟨z, its, n, r, hl, e⟩ := I.lC hH
  obtain ⟨z2, cQ, n2, r2, ju, e2⟩ := I.lC hB
  refine PySem.P.add_list e e2 ?_ (by rw [List.size_toArray, List.size_toArray]; omega)
  have ea : its.toArray ++ cQ.toArray = (its ++ cQ).toArray := by simp
  rw [ea]
  exact ⟨.ref _, _, I.LU (t' := s.toks) (r.append r2) (by rw [List.length_append]; omega), rfl, q _ I.fresh⟩
end
end L2
namespace Ko
open PySem PySem.W PySem.Calls PyProof.Rows
theorem ox {P : Params} {h : Heap} : ∀ (ns : List Int) (vs : List Value), WellAll P h vs (ns.map WData.int) → IntsAre vs ns := by
  intro ns
  induction ns with
  | nil =>
    intro vs w
    rw [List.map_nil] at w
    cases w
    exact .nil
  | cons n ns ih =>
    intro vs w
    rw [List.map_cons] at w
    cases w with
    | cons a b =>
      cases a
      exact .cons _ _ (ih _ b)
theorem xW {l : OpenLaw} {n : Nat} (hn : l.most = some n) {P : Params} {h : Heap} {args : List WData} {vals : List Value}
    (wd : l.row.toRowW.claim.pre args = true) (Gb : WellAll P h vals args) :
    ∃ a vs ns, vals = [Value.ref a] ∧ args = [WData.list (ns.map WData.int)] ∧ h.get? a = some { cls := .type "list", data := .seq vs.toArray } ∧ IntsAre vs ns ∧ ns.length ≤ n := by
  have MP : WShape.hasAll [] args [.list .int] = true := (pre_splitW wd).1
  have hc : l.pre.holds [] { args := args } = true := (pre_splitW wd).2
  obtain ⟨d, r, rfl, h1, h2⟩ := hasAllW_cons MP
  obtain rfl := hasAllW_nil h2
  obtain ⟨xs, rfl, h3⟩ := hasW_list h1
  obtain ⟨ns, rfl⟩ := items_int h3
  have hlen : ns.length ≤ n := by
    unfold OpenLaw.pre at hc
    have h4 : (WTm.not (.lt (.lit (.int (n : Int))) (.len (.arg 0)))).holds [] { args := [.list (ns.map .int)] } = true := by
      have h4 := (holds_andW hc).1
      rw [hn] at h4
      exact h4
    have h5 := condW_of h4 (w_not (w_lt w_lit (w_len_list (w_arg rfl))))
    rw [List.length_map] at h5
    refine Nat.le_of_not_lt fun q => ?_
    have q' : (n : Int) < ((ns.length : Nat) : Int) := by omega
    first
      | (rw [decide_eq_true q'] at h5; exact absurd h5 (by decide))
      | (simp at h5; omega)
  cases Gb with
  | cons w1 w2 =>
    cases w2
    cases w1 with
    | list ho LY => exact ⟨_, _, ns, rfl, rfl, ho, ox ns _ LY, hlen⟩
theorem xX (l : OpenLaw) (args : List WData) : l.row.toRowW.claim.post args (.bool true) args = true :=
  postW_of (r := l.row.toRowW) (X := (true == true))
    (show WShape.has [] (.bool true) .bool = true by first | rfl | decide | simp [WShape.has, WShape.arms, WShape.armsAll])
    (show (WTm.eq .res (.lit (.bool true))).value [] { args := args, res := some (.bool true), after := args } = some (.bool (true == true)) from w_eq_bool (w_res rfl) w_lit) rfl
theorem uL {l : OpenLaw} {n : Nat} {q : Program} {loose : List Str} {XP : (Str → Option Value) → Heap → Prop} {YP : World → Heap → Prop} {d : DefRec}
    (hn : l.most = some n) (xY : d.params.defaults = [])
    (call : ∀ (w : World) (s₀ aE : Shared) (mg mb : Str → Option Value) (fa : Addr) (o : Obj) (pm cd doc : Value) (a : Addr) (vs : List Value) (ns : List Int),
      Ground q loose [] XP w s₀ mg mb aE.heap → YP w aE.heap →
      aE.heap.get? fa = some o → o.data = .func (docDef d.name d.params d.body d.scope pm cd doc) → aE.heap.CodeRec cd d.name → mg d.name = some (.ref fa) →
      aE.heap.get? a = some { cls := .type "list", data := .seq vs.toArray } → IntsAre vs ns → ns.length ≤ n → aE.gens = #[] →
      codeAny (model l.prog w) callerA (.call (.ref fa) ⟨[.ref a], []⟩) (fun r s' => r = .ok (.ret (.bool true)) ∧ OldK aE.heap s'.heap ∧ s'.os = aE.os ∧ AllBare s'.gens) aE) :
    WalkO q loose XP YP l.row.toRowW d [] (fun f vs => PySem.call f vs) := by
  intro w s₀ aE mg mb G Y fa o pm cd doc dV kV ho hd gd hD xZ hg args vals as wd OB OJ Gb OM
  obtain rfl : dV = .none := Dflts.none hD xY
  obtain rfl : kV = .none := Dflts.noKw hD
  obtain ⟨a, vs, ns, rfl, rfl, AB, hints, hlen⟩ := xW hn wd Gb
  refine enter_call (codeAny_mono (call w s₀ aE mg mb fa o pm cd doc a vs ns G Y ho (fd_plain hd) gd xZ AB hints hlen hg) fun r s' hq => ?_)
  obtain ⟨rfl, h2, h3, h4⟩ := hq
  exact ⟨.inl ⟨.bool true, .bool true, [], rfl, fun _ => rfl, .bool true, xX l _, fun _ => ⟨List.Pairwise.nil, fun _ hm => (nomatch hm)⟩⟩, h2, h3, h4⟩
end Ko
namespace L2
open PySem PySem.Spec PyProof.Rows
theorem qF : ∀ {vs : List Value} {ns : List Int}, IntsAre vs ns → Vals (ns.map V.int) vs
  | _, _, .nil => .nil
  | _, _, .cons n t h => .cons ⟨t, rfl⟩ (qF h)
noncomputable def fW (s : Stmt) : Arguments := match s with
  | .FunctionDef _ a _ _ _ _ _ _ _ _ => a
  | _ => { posonlyargs := [], args := [], vararg := none, kwonlyargs := [], kw_defaults := [], kwarg := none, defaults := [] }
noncomputable def dr (s : Stmt) : List Stmt := match s with
  | .FunctionDef _ _ b _ _ _ _ _ _ _ => b
  | _ => []
noncomputable def aj (s : Stmt) : Scope := match s with
  | .FunctionDef _ _ _ _ _ _ sc _ _ _ => sc
  | _ => { kind := .function, names := [], isGenerator := false, isCoroutine := false }
noncomputable abbrev bc : js := fun _ _ _ _ _ _ => False
noncomputable abbrev E0 : XK := fun _ _ _ => False
theorem aW {X : Cx} : Passes bc X E0 := fun _ _ _ _ _ _ _ h => h.elim
structure qG (K : PySem.W.Frag) (x qual : Str) (st : Stmt) (f : Addr) (fd : FuncData) : Prop where
  ex : ∃ (oc : Value) (od : Option Addr) (kV doc pm : Value) (an : Option Addr) (dN ct : Value) (lz : Array (Option Value)),
    fd = PySem.W.fnOf x qual (fW st) (dr st) (aj st) .none kV doc pm an dN ct ∧ K.lookup f = some ⟨oc, od, .func fd, lz⟩ ∧ PySem.W.codeIn K dN qual = true
  kp : PySem.W.keepIn K (.ref f) = true
section
variable {P : Program} {w : World} {K : PySem.W.Frag} {mg : Str → Option Value} {base : Heap}
theorem qG.binds {x qual : Str} {st : Stmt} {f : Addr} {fd : FuncData} {ps : List Str} (F : qG K x qual st f fd)
    (h : ∀ (kV doc pm : Value) (an : Option Addr) (dN ct : Value) (us : List Value), us.length = ps.length → bindArgs (PySem.W.fnOf x qual (fW st) (dr st) (aj st) .none kV doc pm an dN ct) ⟨us, []⟩ = pure (ps.zip us)) : Binds K fd ps [] := by
  obtain ⟨oc, od, kV, doc, pm, an, dN, ct, lz, rfl, lk, gd⟩ := F.ex
  exact .all (h kV doc pm an dN ct)
theorem Gd {x qual : Str} {st : Stmt} {f : Addr} {oc : Value} {od an : Option Addr} {lz : Array (Option Value)} {kV doc pm dN ct : Value} (l : K.lookup f = some ⟨oc, od, .func (PySem.W.fnOf x qual (fW st) (dr st) (aj st) .none kV doc pm an dN ct), lz⟩)
    (c : PySem.W.codeIn K dN qual = true) (k : PySem.W.keepIn K (.ref f) = true) : qG K x qual st f (PySem.W.fnOf x qual (fW st) (dr st) (aj st) .none kV doc pm an dN ct) := ⟨⟨oc, od, kV, doc, pm, an, dN, ct, lz, rfl, l, c⟩, k⟩
end
section
variable {X : Cx}
theorem pv (i : Nat) {x : Str} {pos : Pos} (hN : X.N[i]? = some x := by rfl) (hv : qp X.env.scope x := by first | exact Or.inl rfl | exact Or.inr (Or.inl rfl) | exact Or.inr (Or.inr rfl)) (hd : (x == ("__debug__" : Str)) = false := by decide)
    (gd : (x == ("__classdict__" : Str)) = false := by decide) : PE X (.Name x pos) (Fb i) := xC hN hv hd gd
end
end L2
set_option maxHeartbeats 4000000
namespace L2
open PySem PySem.Spec PyProof.Rows
theorem kg {env : Env} : ∀ (names : List (Str × NameKind)) (acc : List (Str × Addr)), (∀ n, (n, NameKind.free) ∈ names → ∃ c, env.cells.lookup n = some c) →
    (∀ n c, acc.lookup n = some c → env.cells.lookup n = some c) →
    ∃ cl, (forIn names acc fun x r => if (x.2 == NameKind.free) = true then (do let a ← cellOf env x.1; pure (ForInStep.yield ((x.1, a) :: r))) else pure (ForInStep.yield r) : Sem (List (Str × Addr))) = pure cl ∧
      (∀ n c, cl.lookup n = some c → env.cells.lookup n = some c) ∧ (∀ n, (n, NameKind.free) ∈ names → ∃ c, cl.lookup n = some c) ∧ (∀ n c, acc.lookup n = some c → ∃ c', cl.lookup n = some c')
  | [], acc, _, h2 => ⟨acc, rfl, h2, fun n h => by simp at h, fun n c h => ⟨c, h⟩⟩
  | (n, k) :: r, acc, h1, h2 => by
    rw [List.forIn_cons]
    cases hk : (k == NameKind.free) with
    | true =>
      have ek : k = NameKind.free := by simpa using hk
      subst ek
      obtain ⟨c, hc⟩ := h1 n List.mem_cons_self
      have e1 : cellOf env n = pure c := by unfold cellOf; rw [hc]
      obtain ⟨cl, e, a1, a2, a3⟩ := kg r ((n, c) :: acc) (fun m hm => h1 m (List.mem_cons_of_mem _ hm)) (fun m c' hm => by
        rw [List.lookup_cons] at hm
        cases hb : m == n with
        | true =>
          rw [hb] at hm
          have e2 : m = n := by simpa using hb
          rw [e2, hc]; exact hm
        | false => rw [hb] at hm; exact h2 m c' hm)
      refine ⟨cl, ?_, a1, fun m hm => ?_, fun m c' hm => ?_⟩
      · simp only [if_true, e1]
        exact e
      · rcases List.mem_cons.mp hm with z | z
        · cases z
          exact a3 n c (by rw [List.lookup_cons]; simp)
        · exact a2 m z
      · by_cases hb : m = n
        · subst hb
          exact a3 m c (by rw [List.lookup_cons]; simp)
        · exact a3 m c' (by
            rw [List.lookup_cons]
            have : (m == n) = false := by simpa using hb
            rw [this]; exact hm)
    | false =>
      obtain ⟨cl, e, a1, a2, a3⟩ := kg r acc (fun m hm => h1 m (List.mem_cons_of_mem _ hm)) h2
      refine ⟨cl, ?_, a1, fun m hm => ?_, a3⟩
      · simp only [Bool.false_eq_true, if_false]
        exact e
      · rcases List.mem_cons.mp hm with z | z
        · cases z; simp at hk
        · exact a2 m z
theorem eu {scope : Scope} {env : Env} (h : ∀ n, (n, NameKind.free) ∈ scope.names → ∃ c, env.cells.lookup n = some c) :
    ∃ cl, closureFor scope env = pure cl ∧ (∀ n c, cl.lookup n = some c → env.cells.lookup n = some c) ∧ (∀ n, (n, NameKind.free) ∈ scope.names → ∃ c, cl.lookup n = some c) := by
  obtain ⟨cl, e, a1, a2, _⟩ := kg (env := env) scope.names [] h (fun n c hn => by simp at hn)
  refine ⟨cl, ?_, a1, a2⟩
  simp only [closureFor]
  rw [e]
  rfl
noncomputable def cxBlock (X : Cx) (N' : List Str) (env' : Env) (A' : Around) (stack' : List Env) (s : Shared) (H : Hp) (ex : List Addr) : Cx :=
  { X with N := N', s₀ := s, H₀ := H, env := env', A := A', outer := X.stack, stack := stack', ex := ex, fn := fun _ => false, pn := [], xe := fun _ _ => False }
theorem lD {X : Cx} {pins : List (Addr × Obj)} {σ aK : St} {H H' : Hp} {s : Shared} {N' : List Str} {env' : Env} {A' : Around} {stack' : List Env} {ex : List Addr} {h1 : Heap} {m0 : Str → Option Value} {g' : Array GenState} {tk : Nat}
    (I : Inv X pins σ H s) (mH : env'.scope.kind = .function) (Jl : env'.globals = X.env.globals) (LZ : env'.builtins = X.env.builtins)
    (d9 : ∀ n c, env'.cells.lookup n = some c → X.env.cells.lookup n = some c)
    (sx : ∀ x, (env'.kindOf x = some .cell ∨ env'.kindOf x = some .free) → ∃ c, env'.cells.lookup x = some c)
    (hh : X.calm = true → A'.handled = none) (Ge : A'.frames = some stack') (L0 : stack' = X.stack ∨ (stack' = env' :: X.stack ∧ env'.frame = some env'.locals))
    (hC : s.heap.objs.size ≤ env'.locals) (hf : ∀ b ∈ ex, cM X pins H b) (we : ∀ b ∈ ex, b < s.heap.objs.size)
    (x8 : Un (fo X.stack) ex H H' s.heap h1) (hok : cw X.prog X.w H' h1) (oy : H' env'.locals = none) (oz : ∀ b o, s.heap.get? b = some o → h1.get? b = some o) (oA : h1.Ns env'.locals m0)
    (sy : ∀ (i : Nat) (x : Str) (v : V), N'[i]? = some x → aK[i]? = some (some v) → qp env'.scope x → (env'.kindOf x = some .cell ∨ env'.kindOf x = some .free) ∧ qp X.env.scope x ∧ (X.env.kindOf x = some .cell ∨ X.env.kindOf x = some .free) ∧ ∃ j : Nat, X.N[j]? = some x ∧ σ[j]? = some (some v))
    (hlen : aK.length = N'.length) (hg : Gn s.gens.size g') : Inv (cxBlock X N' env' A' stack' s H ex) [] aK H' { s with heap := h1, gens := g', toks := tk } := by
  have ya : ∀ b ∈ ex, ∀ x c, X.env.cells.lookup x = some c → c ≠ b := fun b hb => (hf b hb).2.2.2.2.1
  refine ⟨⟨I.ok.mod, mH, Jl.trans I.ok.glob, LZ.trans I.ok.blt, hC, fun x y c a b => I.ok.inj x y c (d9 x c a) (d9 y c b), sx, fun _ _ z => (nomatch z), hh, Ge, L0, fun b hb => ⟨Nat.ne_of_lt (Nat.lt_of_lt_of_le (we b hb) hC), fun x c e => ya b hb x c (d9 x c e)⟩,
      I.bs, Nat.le_trans I.ok.bsz I.sz, fun b o e hb => ?_, fun b hb z => ?_, I.stack, I.mG⟩, rfl, hg, x8, ⟨m0, oA, fun i x v e1 e2 e3 => ?_⟩, fun x c e => ?_, oy, fun x c e => ?_, fun p hp => absurd (show p ∈ ([] : List (Addr × Obj)) from hp) (by simp), hok, hlen⟩
  · rcases (hf b hb).2.2.2.1 with z | z
    · exact I.ok.noex b o e z
    · exact absurd (Nat.lt_of_lt_of_le (Heap.lt_size e) (Nat.le_trans I.ok.bsz z)) (Nat.lt_irrefl _)
  · rcases List.mem_cons.mp (I.fw b z) with q | q
    · exact (hf b hb).2.1 q
    · exact (hf b hb).2.2.1 q
  · obtain ⟨k1, vx, k2, j, n1, n2⟩ := sy i x v e1 e2 e3
    obtain ⟨m, hn, hl⟩ := I.loc
    obtain ⟨u, r, l⟩ := hl j x v n1 n2 vx
    refine ⟨u, r, .inr ⟨k1, ?_⟩⟩
    obtain ⟨c', yb⟩ := sx x k1
    rcases l with ⟨kl, _⟩ | ⟨_, c, ec, z⟩
    · rcases k2 with q | q <;> (rw [kl] at q; cases q)
    · have : c' = c := Option.some.inj ((d9 x c' yb).symm.trans ec)
      subst this
      exact ⟨c', yb, z.keeps oz⟩
  · obtain ⟨v, z⟩ := I.cell x c (d9 x c e)
    exact ⟨v, z.keeps oz⟩
  · obtain ⟨v, o, ho, hd⟩ := I.cell x c (d9 x c e)
    exact x8.free c o ho (I.freeC x c (d9 x c e)) fun z => ya c z x c (d9 x c e) rfl
theorem lookup_map2 {c : Str → NameKind → NameKind} : ∀ {names : List (Str × NameKind)} {x : Str}, (names.map fun (p : Str × NameKind) => (p.1, c p.1 p.2)).lookup x = (names.lookup x).map (c x)
  | [], x => rfl
  | (n, k') :: r, x => by
    have ih := @lookup_map2 c r x
    rw [List.map_cons, List.lookup_cons, List.lookup_cons]
    cases hx : x == n with
    | true =>
      have e : x = n := by simpa using hx
      subst e
      rfl
    | false => exact ih
theorem c7 {scope : Scope} {env : Env} (x : Str) : (relabel scope env).names.lookup x = (scope.names.lookup x).map fun k => if (k == .free && env.scope.kind == .function && env.kindOf x == some .cell) = true then .cell else k := by
  have e : (relabel scope env).names = scope.names.map fun p => (p.1, (fun n k => if (k == NameKind.free && env.scope.kind == .function && env.kindOf n == some .cell) = true then NameKind.cell else k) p.1 p.2) := by
    unfold relabel
    dsimp only
    congr 1
    funext p
    obtain ⟨n, k⟩ := p
    dsimp only
    split <;> rfl
  rw [e]
  exact lookup_map2 (c := fun n k => if (k == NameKind.free && env.scope.kind == .function && env.kindOf n == some .cell) = true then NameKind.cell else k)
noncomputable def aB (N : List Str) (sc scope : Scope) (N' : List Str) (tn : Nat) (idx : List Nat) : Prop :=
  scope.kind = .function ∧ (∀ y ∈ scope.names, y.2 ≠ .cell ∧ (y.2 = .local → scope.names.lookup y.1 = some .local) ∧ (y.2 = .free → sc.names.lookup y.1 = some .cell ∨ sc.names.lookup y.1 = some .free)) ∧
    N'.length = tn + idx.length ∧ ∀ p ∈ idx.zip (N'.drop tn), N[p.1]? = some p.2 ∧ scope.names.lookup p.2 = some .free
instance (N : List Str) (sc scope : Scope) (N' : List Str) (tn : Nat) (idx : List Nat) : Decidable (aB N sc scope N' tn idx) := by unfold aB; infer_instance
noncomputable def bj (tn : Nat) (idx : List Nat) (σ : St) : St := List.replicate tn none ++ idx.map fun i => (σ[i]?).join
theorem aB.at {N : List Str} {sc scope : Scope} {N' : List Str} {tn : Nat} {idx : List Nat} (B : aB N sc scope N' tn idx) {σ : St} {i : Nat} {x : Str} {v : V} (h1 : N'[i]? = some x) (h2 : (bj tn idx σ)[i]? = some (some v)) :
    scope.names.lookup x = some .free ∧ ∃ j : Nat, N[j]? = some x ∧ σ[j]? = some (some v) := by
  obtain ⟨_, _, b3, b4⟩ := B
  unfold bj at h2
  by_cases hi : i < tn
  · rw [List.getElem?_append_left (by simpa using hi), List.getElem?_replicate, if_pos hi] at h2
    cases h2
  · rw [List.getElem?_append_right (by simpa using hi), List.length_replicate, List.getElem?_map] at h2
    cases e : idx[i - tn]? with
    | none => rw [e] at h2; cases h2
    | some k =>
      rw [e] at h2
      have h3 : (σ[k]?).join = some v := Option.some.inj h2
      have e2 : (N'.drop tn)[i - tn]? = some x := by
        rw [List.getElem?_drop]
        have : tn + (i - tn) = i := by omega
        rw [this]; exact h1
      have m : (k, x) ∈ idx.zip (N'.drop tn) := by
        refine List.mem_of_getElem? (i := i - tn) ?_
        rw [List.getElem?_zip_eq_some]
        exact ⟨e, e2⟩
      obtain ⟨a, b⟩ := b4 _ m
      refine ⟨b, k, a, ?_⟩
      cases q : σ[k]? with
      | none => rw [q] at h3; cases h3
      | some w => rw [q] at h3; exact congrArg some h3
theorem aB.len {N : List Str} {sc scope : Scope} {N' : List Str} {tn : Nat} {idx : List Nat} (B : aB N sc scope N' tn idx) (σ : St) : (bj tn idx σ).length = N'.length := by
  rw [B.2.2.1]
  unfold bj
  simp
section
variable {X : Cx}
noncomputable def fX (X : Cx) (ifs : List Expr) (tt : TT) : Prop :=
  ∀ (pins : List (Addr × Obj)) (s : Shared) (σ : St) (H : Hp) (Q : Bool → Hp → Prop), Inv X pins σ H s → tt σ H Q →
    wpAny (model X.prog X.w) X.A (forIn ifs true fun c r => if r = true then do let ok ← isTrue c X.env (eval c X.env); pure (ForInStep.yield ok) else pure (ForInStep.yield r)) (TP X pins σ Q) X.xe s
noncomputable def Jm : TT := fun _ H Q => Q true H
theorem DG : fX X [] Jm := fun _ _ _ H _ I h => wpAny_tests_nil ⟨H, I, h⟩
theorem DH {c : Expr} {tc : TT} (h : PT X c tc) : fX X [c] tc := fun pins s σ H Q I q => wpAny_tests_one (h pins s σ H Q I q)
noncomputable abbrev jv (X : Cx) (N' : List Str) (scope : Scope) (cl : List (Str × Addr)) (C : Addr) (s : Shared) (H : Hp) (fp : List Addr) : Cx := cxBlock X N' (compEnvC scope cl C X.env) X.A X.stack s H fp
noncomputable abbrev Blk (X : Cx) (N' : List Str) (scope : Scope) (P : Cx → Prop) : Prop := ∀ (cl : List (Str × Addr)) (C : Addr) (s : Shared) (H : Hp) (fp : List Addr), P (jv X N' scope cl C s H fp)
noncomputable def wg (J : It) (g : TG) (tt : TT) (te : TE) (D : Addr) (Q : VK) (W : Nat → Nat → St → Hp → Prop) : Prop := ∀ i m τ H, W i m τ H →
  (J.stop i H ∧ Q (.ref D) H) ∨ (J.go i H ∧ ∀ x H', J.yld i H x H' → g x τ H' fun ay H2 => tt ay H2 fun b H3 => if b = true then te ay H3 fun y H4 => ∃ ys m', H4 D = some (.lst ys) ∧ ys.length < sizeLine ∧ m' < m ∧ W (i + 1) m' ay (upd H4 D (.lst (ys ++ [y]))) else ∃ m', m' < m ∧ W (i + 1) m' ay H3)
noncomputable def oB (tn : Nat) (idx : List Nat) (wi : TI) (g : TG) (tt : TT) (te : TE) : TE := fun σ H Q => wi σ H fun J H1 => ∀ D, H1 D = none → ∃ W : Nat → Nat → St → Hp → Prop, (∃ m, W 0 m (bj tn idx σ) (upd H1 D (.lst []))) ∧ wg J g tt te D Q W
theorem qH {pins : List (Addr × Obj)} {σ : St} {H2 : Hp} {s2 : Shared} {tg elt iter : Expr} {ifs : List Expr} {scope : Scope} {pos : Pos} {N' : List Str} {tn : Nat} {idx : List Nat} {g : TG} {tt : TT} {te : TE} {it : Addr} {fp : List Addr} {bR : Nat → Heap → Prop} {J : It}
    {cl : List (Str × Addr)} {E : Value → Shared → Prop} {RR : Value → Addr → Result → Shared → Prop} {Q : VK}
    (hc : X.calm = true) (B : aB X.N X.env.scope scope N' tn idx)
    (hg : Blk X N' scope fun Y => PG Y tg g) (ht : Blk X N' scope fun Y => fX Y ifs tt) (he : Blk X N' scope fun Y => PE Y elt te)
    (I : Inv X pins σ H2 s2) (T : Turn X.prog X.w X.K tg J fp it bR) (st : bR 0 s2.heap) (f2 : ∀ b ∈ fp, cM X pins H2 b)
    (cG : ∀ n c, cl.lookup n = some c → X.env.cells.lookup n = some c) (ez : ∀ n, (n, NameKind.free) ∈ scope.names → ∃ c, cl.lookup n = some c)
    (hq : ∀ D, H2 D = none → ∃ W : Nat → Nat → St → Hp → Prop, (∃ m, W 0 m (bj tn idx σ) (upd H2 D (.lst []))) ∧ wg J g tt te D Q W)
    (yc : ∀ D C m s' H', Inv X pins σ H' s' → cM X pins H' C → s'.heap.Ns C m → Q (.ref D) H' → RR (.ref D) C (.ok .next) s') :
    wpAny (model X.prog X.w) X.A (newList []) (fun acc fu => wpAny (model X.prog X.w) X.A (newFunctionEnv scope X.env.globals cl [] X.env.qual none .none (some X.env)) (fun lF sA =>
      codeAny (model X.prog X.w) X.A (.compStart (.ListComp elt [⟨tg, iter, ifs, 0⟩] scope pos) 0 (.ref it) acc { lF with scope := relabel scope X.env }) (RR acc lF.locals) sA) E fu) E s2 := by
  obtain ⟨b1, b2, b3, b4⟩ := id B
  refine wpAny_newObj_type (wpAny_newFunctionEnv (fun y hy => (b2 y hy).1) (by intro y hy; simp at hy) (fun dn gi gj => ?_) b1)
  dsimp only at gi gj ⊢
  generalize hG : s2.heap.push { cls := .type "list", dict := none, data := .seq ([] : List Value).toArray } = G at gi gj ⊢
  have hC : G.objs.size = s2.heap.objs.size + 1 := by rw [← hG, Heap.size_push]
  have sC : s2.heap.objs.size ≠ G.objs.size := by rw [hC]; exact Nat.ne_of_lt (Nat.lt_succ_self _)
  have gO : s2.heap.objs.size ≤ G.objs.size := by rw [hC]; exact Nat.le_succ _
  have below : ∀ b, b < s2.heap.objs.size → b ≠ G.objs.size := fun b hb => by rw [hC]; exact Nat.ne_of_lt (Nat.lt_succ_of_lt hb)
  have old : ∀ b o, s2.heap.get? b = some o → dn.get? b = some o := fun b o e => gj.extBut b o (below b (Heap.lt_size e)) (Heap.get?_push_of_some _ (hG ▸ Heap.get?_push_of_some _ e))
  have ye : dn.get? s2.heap.objs.size = some { cls := .type "list", data := .seq ([] : List Value).toArray } := gj.extBut _ _ sC (Heap.get?_push_of_some _ (hG ▸ Heap.get?_push_size _ rfl))
  have qI : H2 s2.heap.objs.size = none := I.hok.fresh (Nat.le_refl _)
  have oy : upd H2 s2.heap.objs.size (.lst []) G.objs.size = none := by rw [ai (Ne.symm sC)]; exact I.hok.fresh gO
  have sD : cw X.prog X.w (upd H2 s2.heap.objs.size (.lst [])) dn := I.hok.laid old (Nat.le_refl _) ⟨Nat.zero_le _, [], 0, .nil, ye⟩
  have iC : ∀ b ∈ fp, b < s2.heap.objs.size := fun b hb => let ⟨o, e, _⟩ := T.obj _ _ st b hb; Heap.lt_size e
  obtain ⟨W, ⟨m0, w0⟩, turn⟩ := hq s2.heap.objs.size qI
  have I1 : Inv (jv X N' scope cl G.objs.size s2 H2 fp) [] (bj tn idx σ) (upd H2 s2.heap.objs.size (.lst [])) { s2 with heap := dn, toks := s2.toks + ([] : List (Str × Value)).length } := by
    refine lD (g' := s2.gens) (m0 := fun x => ([] : List (Str × Value)).reverse.lookup x) I b1 rfl rfl cG (fun x hx => ?_) (fun z => I.ok.hd z) I.ok.frames (.inl rfl) gO f2 iC (Un.laid old (Nat.le_refl _) qI) sD oy old gi (fun i x v e1 e2 e3 => ?_) (B.len σ) I.bare.self
    · have gI : (relabel scope X.env).names.lookup x = some .cell ∨ (relabel scope X.env).names.lookup x = some .free := hx
      rw [c7] at gI
      cases q : scope.names.lookup x with
      | none => rw [q] at gI; rcases gI with z | z <;> cases z
      | some k0 =>
        have hm := PySem.mem_of_lookup q
        rw [q] at gI
        by_cases hk : k0 = .free
        · subst hk; exact ez x hm
        · have nk : (k0 == NameKind.free) = false := by simpa using hk
          have nc := (b2 _ hm).1
          simp only [Option.map_some, nk, Bool.false_and, Bool.false_eq_true, if_false] at gI
          rcases gI with z | z
          · exact absurd (Option.some.inj z) nc
          · exact absurd (Option.some.inj z) hk
    · obtain ⟨fr, j, e4, e5⟩ := B.at e1 e2
      have kx := (b2 _ (PySem.mem_of_lookup fr)).2.2 rfl
      refine ⟨?_, .inr kx, kx, j, e4, e5⟩
      show (relabel scope X.env).names.lookup x = some .cell ∨ (relabel scope X.env).names.lookup x = some .free
      rw [c7, fr]
      simp only [Option.map_some]
      split
      · exact .inl rfl
      · exact .inr rfl
  have stat : ∀ {H' : Hp}, (∀ b ∈ fp, H' b = none) → ∀ b ∈ fp, cM (jv X N' scope cl G.objs.size s2 H2 fp) [] H' b := fun hn b hb => by
    refine ⟨hn b hb, below b (iC b hb), fun z => ?_, .inl hb, fun x c e => (f2 b hb).2.2.2.2.1 x c (cG x c e), fun p hp => absurd (show p ∈ ([] : List (Addr × Obj)) from hp) (by simp)⟩
    rcases List.mem_cons.mp (I.fw b z) with q | q
    · exact (f2 b hb).2.1 q
    · exact (f2 b hb).2.2.1 q
  have loop : ∀ fu : Shared, fu = { s2 with heap := dn, toks := s2.toks + ([] : List (Str × Value)).length } →
      codeAny (model X.prog X.w) X.A (.compLoop (.ListComp elt [⟨tg, iter, ifs, 0⟩] scope pos) 0 (.ref it) (.ref s2.heap.objs.size) (compEnvC scope cl G.objs.size X.env))
        (RR (.ref s2.heap.objs.size) G.objs.size) fu := by
    rintro fu rfl
    refine codeAny_loop rfl (fun n s' => ∃ i τ H', Inv (jv X N' scope cl G.objs.size s2 H2 fp) [] τ H' s' ∧ bR i s'.heap ∧ (∀ b ∈ fp, H' b = none) ∧ W i n τ H') (fun n s hI => ?_) m0
      ⟨0, _, _, I1, T.keep _ _ _ st fun b _ o e => old b o e, fun b hb => by rw [ai (Nat.ne_of_lt (iC b hb))]; exact (f2 b hb).1, w0⟩
    show wpAny _ X.A ((compTurn (.ListComp elt [⟨tg, iter, ifs, 0⟩] scope pos) 0 (.ref it) (.ref s2.heap.objs.size) (compEnvC scope cl G.objs.size X.env)).onRaise (fun x => do noteFrame x (compEnvC scope cl G.objs.size X.env); theTreesLotGoes x)) _ _ s
    refine wpAny_noted ?_
    rw [compTurn_list]
    obtain ⟨i, τ, H3, I3, jr, lx, w3⟩ := hI
    rcases turn i n τ H3 w3 with ⟨stop, qn⟩ | ⟨go, step⟩
    · refine wpAny_bind (wpAny_standAt (wpAny_bind (wpAny_mono (T.done (jv X N' scope cl G.objs.size s2 H2 fp) rfl rfl rfl hc i [] s τ H3 (fun _ _ => False) I3 (stat lx) jr stop) (fun r s4 ⟨hr, I4⟩ => ?_) fun _ _ z => z.elim)))
      subst hr
      refine wpAny_pure ?_
      have J2 : Inv X pins σ H3 s4 := I.oh I4.os I4.base I4.hok I4.bare fun b hb => ⟨(f2 b hb).2.2.2.1, (f2 b hb).2.1, (f2 b hb).2.2.2.2.1, (f2 b hb).2.2.2.2.2⟩
      obtain ⟨mm, hm, _⟩ := I4.loc
      exact yc _ _ mm s4 H3 J2 (I.jP gO I4.free) hm qn
    · refine wpAny_bind (wpAny_standAt (wpAny_bind (wpAny_mono (T.item (jv X N' scope cl G.objs.size s2 H2 fp) rfl rfl rfl hc i [] s τ H3 (fun _ _ => False) I3 (stat lx) jr go) (fun r s4 ⟨u, hr, h4⟩ => ?_) fun _ _ z => z.elim)))
      subst hr
      refine wpAny_bind (wpAny_mono h4 (fun _ s5 ⟨x, H5, I5, r5, y5, gf, oq⟩ => ?_) fun _ _ z => z.elim)
      have ot := I5.pinned (stat oq) (T.obj _ _ gf)
      have again : ∀ {ik : St} {H7 : Hp} {s7 : Shared}, Inv (jv X N' scope cl G.objs.size s2 H2 fp) ([] ++ ie fp s5.heap) ik H7 s7 → (∃ m', m' < n ∧ W (i + 1) m' ik H7) →
          ∃ m, m < n ∧ ∃ i τ H', Inv (jv X N' scope cl G.objs.size s2 H2 fp) [] τ H' s7 ∧ bR i s7.heap ∧ (∀ b ∈ fp, H' b = none) ∧ W i m τ H' := fun {ik H7 s7} I7 n7 => by
        obtain ⟨m', hm, w7⟩ := n7
        refine ⟨m', hm, i + 1, ik, H7, I7.ei, T.keep _ _ _ gf fun b hb o e => (I7.pin (b, o) (List.mem_append_right _ (List.mem_append_right _ (cA hb e)))).1, fun b hb => ?_, w7⟩
        obtain ⟨o, e, d⟩ := T.obj _ _ gf b hb
        exact (I7.pin (b, o) (List.mem_append_right _ (List.mem_append_right _ (cA hb e)))).2.1
      refine wpAny_bind (wpAny_mono (hg cl G.objs.size s2 H2 fp _ s5 τ H5 x u _ ot r5 (step x H5 y5)) (fun _ s6 ⟨iD, H6, I6, q6⟩ => ?_) fun _ _ z => z.elim)
      refine wpAny_bind (wpAny_mono (ht cl G.objs.size s2 H2 fp _ s6 iD H6 _ I6 q6) (fun ok s7 ⟨H7, I7, q7⟩ => ?_) fun _ _ z => z.elim)
      cases ok with
      | false => exact wpAny_pure ⟨rfl, again I7 q7⟩
      | true =>
        refine wpAny_bind (wpAny_bind (wpAny_mono (he cl G.objs.size s2 H2 fp _ s7 iD H7 _ I7 q7) (fun yv s8 ⟨y, H8, I8, r8, q8⟩ => ?_) fun _ _ z => z.elim))
        obtain ⟨ys, m', hD, hsz, lH, w8⟩ := q8
        refine wpAny_bind (wpAny_mono (jt (X := jv X N' scope cl G.objs.size s2 H2 fp) _ s8 iD H8 (.ref s2.heap.objs.size) [y] (.ref s2.heap.objs.size) [yv] (fun v H9 => v = .au ∧ H9 = upd H8 s2.heap.objs.size (.lst (ys ++ [y]))) I8 rfl (.cons r8 .nil) ⟨_, ys, y, rfl, rfl, hD, hsz, rfl, rfl⟩) (fun rv s9 ⟨v9, H9, I9, _, _, e9⟩ => ?_) fun _ _ z => z.elim)
        subst e9
        exact wpAny_pure (wpAny_pure ⟨rfl, again I9 ⟨m', lH, w8⟩⟩)
  exact codeAny_compStart_list (loop _ rfl) (T.self _ 0 _ _ _ (T.keep _ _ _ st fun b _ o e => old b o e) (loop _ rfl))
variable {tg elt iter : Expr} {ifs : List Expr} {scope : Scope} {pos : Pos} {N' : List Str} {tn : Nat} {idx : List Nat} {wi : TI} {g : TG} {tt : TT} {te : TE}
theorem cM.turn {pins : List (Addr × Obj)} {σ : St} {H : Hp} {s : Shared} {C : Addr} {h' : Heap} (f : cM X pins H C) (I : Inv X pins σ H s) (hs : Heap.SameBut C s.heap h') : Inv X pins σ H { s with heap := h' } :=
  I.turned (t' := s.toks) (fun b o hb e => (hs.2 b hb).trans e) f.1 f.2.1 f.2.2.2.1 f.2.2.2.2.1 f.2.2.2.2.2
theorem m7 (hc : X.calm = true) (B : aB X.N X.env.scope scope N' tn idx) (hi : PI X tg iter wi)
    (hg : Blk X N' scope fun Y => PG Y tg g) (ht : Blk X N' scope fun Y => fX Y ifs tt) (he : Blk X N' scope fun Y => PE Y elt te)
    (hs : ∀ x, foldedSetIterable iter X.env x = pure x := by intro _; rfl) : PE X (.ListComp elt [⟨tg, iter, ifs, 0⟩] scope pos) (oB tn idx wi g tt te) := by
  refine ⟨?_⟩
  intro pins s σ H Q I h
  obtain ⟨cl, fb, cG, ez⟩ := eu (scope := scope) (env := X.env) fun n hn => I.ok.has n ((B.2.1 _ hn).2.2 rfl)
  rw [eval_ListComp]
  refine wpAny_comprehension_free (use := none) rfl hs fb B.1 (fun y hy => (B.2.1 y hy).2.1) (wpAny_mono (hi pins s σ H _ I h) (fun xv s1 h1 => wpAny_mono h1 (fun m5 s2 h2 => ?_) fun _ _ z => z) fun _ _ z => z)
  obtain ⟨it, fp, bR, J, H2, e, I2, T, gH, f2, q2⟩ := h2
  subst e
  refine qH (RR := fun acc C => compPost (model X.prog X.w) X.A X.xe none (EP X pins σ Q) acc C) hc B hg ht he I2 T gH f2 cG ez q2 fun D C m s' H' J2 fC hm q => ?_
  exact ⟨m, hm, fun h' gJ => ⟨.ref D, H', fC.turn J2 gJ, rfl, q⟩⟩
theorem oC {i : Nat} {y : Str} {py dR : Pos} (hN : X.N.Nodup) (c9 : X.N[i]? = some y) (hy : X.env.scope.names.lookup y = some .local) (hc : X.calm = true) (B : aB X.N X.env.scope scope N' tn idx) (hi : PI X tg iter wi)
    (hg : Blk X N' scope fun Y => PG Y tg g) (ht : Blk X N' scope fun Y => fX Y ifs tt) (he : Blk X N' scope fun Y => PE Y elt te)
    (jW : swapsWith (.ListComp elt [⟨tg, iter, ifs, 0⟩] scope pos) (some (.Name y py)) dR.line X.env = pure true := by rfl)
    (hs : ∀ x, foldedSetIterable iter X.env x = pure x := by intro _; rfl) : PS X (.Assign [.Name y py] (.ListComp elt [⟨tg, iter, ifs, 0⟩] scope pos) dR) (nI (oB tn idx wi g tt te) (ke i)) := by
  refine ⟨?_⟩
  intro pins s σ H D I h
  obtain ⟨cl, fb, cG, ez⟩ := eu (scope := scope) (env := X.env) fun n hn => I.ok.has n ((B.2.1 _ hn).2.2 rfl)
  rw [exec_Assign_Name_used _ _ _ _ jW]
  refine wpAny_bind (wpAny_standAt (wpAny_bind ?_))
  show wpAny _ X.A (do let _ ← comprehension (.ListComp elt [⟨tg, iter, ifs, 0⟩] scope pos) scope X.env _ (newList []) false (eval iter X.env) (some (assign (.Name y py) X.env))) _ _ s
  refine wpAny_bind (wpAny_mono (wpAny_comprehension_free (use := some (assign (.Name y py) X.env)) (Q := fun _ s' => SP X pins D .next s') rfl hs fb B.1 (fun y hy => (B.2.1 y hy).2.1)
    (wpAny_mono (hi pins s σ H _ I h) (fun xv s1 h1 => wpAny_mono h1 (fun m5 s2 h2 => ?_) fun _ _ z => z) fun _ _ z => z)) (fun _ s' hq => wpAny_pure (wpAny_pure hq)) fun _ _ z => z)
  obtain ⟨it, fp, bR, J, H2, e, I2, T, gH, f2, q2⟩ := h2
  subst e
  refine qH (RR := fun acc C => compPost (model X.prog X.w) X.A X.xe (some (assign (.Name y py) X.env)) (fun _ s' => SP X pins D .next s') acc C) hc B hg ht he I2 T gH f2 cG ez q2 fun E C m s' H' J2 fC hm q => ?_
  show wpAny _ X.A (assign (.Name y py) X.env (.ref E)) _ _ s'
  refine wpAny_assign_Name (store_ok2 J2 hN c9 (.inl hy) (v := .ref E) rfl (fun s3 J3 ⟨a, yf, ha⟩ => ?_) (.inr hy))
  have fY : C ≠ a := by
    rcases ha with z | z
    · rw [z]; exact fC.2.1
    · exact fun w => fC.2.2.2.2.1 _ _ z w.symm
  exact ⟨m, hm.sameBut yf fY, fun h' gJ => ⟨_, H', fC.turn J3 gJ, q⟩⟩
end
noncomputable def Tb (P : Addr) (H : Hp) : Prop := ∃ ps, H P = some (.cE ps) ∧ TriplesOk ps.toList
section
variable {X : Cx} {pins : List (Addr × Obj)} {σ : St} {H : Hp} {s : Shared} {P : Addr} {ps more : Array Value} {h' : Heap}
theorem Inv.grown (I : Inv X pins σ H s) (hP : H P = some (.cE ps)) (k : ∀ b o, b ≠ P → s.heap.get? b = some o → h'.get? b = some o) (n : h'.get? P = some { cls := .none, data := .fields (ps ++ more) }) (t' : Nat) :
    Inv X pins σ (upd H P (.cE (ps ++ more))) { s with heap := h', toks := t' } := by
  have ne : ∀ b u, H b = some u → u ≠ .cE ps → b ≠ P := fun b u e d => og e hP d
  have nn : ∀ b, H b = none → b ≠ P := fun b e z => by rw [z, hP] at e; cases e
  refine I.un ⟨fun b o e q _ _ => k b o (nn b q) e, fun b o e q _ _ => ⟨o.slots, k b o (nn b q) e⟩, fun b o e q _ => by rw [ai (nn b q)]; exact q, fun b o e _ => ?_, fun b xs e => by rw [ai (ne b _ e (by intro z; cases z))]; exact e,
    fun b o u e => by rw [ai (ne b _ e (by intro z; cases z))]; exact e, fun b qs e => ?_⟩ fun b u e => ?_
  · by_cases hb : b = P
    · subst hb; exact ⟨_, n⟩
    · exact ⟨o, k b o hb e⟩
  · by_cases hb : b = P
    · subst hb
      rw [hP] at e; cases e
      exact ⟨more, aM⟩
    · exact ⟨#[], by rw [ai hb, e]; simp⟩
  · by_cases hb : b = P
    · subst hb
      rw [aM] at e; cases e
      exact n
    · rw [ai hb] at e
      refine (I.hok b u e).kc (fun c v hc q => k c v ?_ q) (fun c q => ?_) fun c xs q => ?_
      · rcases hc with z | z
        · rw [z]; exact hb
        · exact ne c _ z (by intro w; cases w)
      · rw [ai (ne c _ q (by intro w; cases w))]; exact q
      · rw [ai (ne c _ q (by intro w; cases w))]; exact q
theorem pN {c : Addr} {pos : Pos} {qn : Str} {scope : Scope} {Q : Value → Shared → Prop} {A : Around} {E : Value → Shared → Prop} (I : Inv X pins σ H s) (hc : X.env.code = .ref c) (hd : PySem.W.CodeHd X.base c P) (hP : H P = some (.cE ps)) (ht : TriplesOk ps.toList)
    (h : ∀ code jX s', TriplesOk jX.toList → Inv X pins σ (upd H P (.cE jX)) s' → (∀ b o, b ≠ P → s.heap.get? b = some o → s'.heap.get? b = some o) → s'.gens = s.gens → Q code s') : wpAny (model X.prog X.w) A (genexprCode X.env pos qn scope) Q E s := by
  have Kp : s.heap.get? P = some (PySem.W.tabObj ps) := I.hok P _ hP
  have sf := hd.keeps I.bk
  have ic := sf.code Kp ht
  cases q : codeAmong pos ps.toList with
  | some c' =>
    refine wpAny_genexprCode_hit hc ic q (h c' ps s ht ?_ (fun _ _ _ e => e) rfl)
    have e : upd H P (.cE ps) = H := by
      funext b
      by_cases hb : b = P
      · subst hb; rw [aM, hP]
      · rw [ai hb]
    rw [e]; exact I
  | none =>
    refine wpAny_genexprCodeX hc ic (sf.tab Kp) q fun c' h' tk ex h1 h2 OO _ ta _ => ?_
    obtain ⟨_, Ck⟩ := ta
    have tr : TriplesOk (ps ++ #[rawInt pos.line, rawInt pos.col, Value.ref c']).toList := by
      rw [Array.toList_append]
      exact TriplesOk_snoc _ _ _ _ ht
    exact h _ _ _ tr (I.grown hP (fun b o hb e => ex b o hb e) Ck tk) (fun b o hb e => ex b o hb e) rfl
end
noncomputable def nK (s cS : Shared) : Prop := cS.heap = s.heap ∧ cS.os = s.os ∧ Gn s.gens.size cS.gens
theorem Inv.nL {X : Cx} {pins : List (Addr × Obj)} {σ : St} {H : Hp} {s cS : Shared} (I : Inv X pins σ H s) (o : nK s cS) : Inv X pins σ H cS := by
  obtain ⟨h, g, d, t, os⟩ := s
  obtain ⟨h', g', d', t', Kj⟩ := cS
  obtain ⟨e1, e2, e3⟩ := o
  cases e1
  cases e2
  exact ⟨I.ok, I.os, I.bare.trans e3, I.base, I.loc, I.cell, I.free, I.freeC, I.pin, I.hok, I.len⟩
section
variable {Y : Cx} {A2 : Around} {tg elt iter : Expr} {ifs : List Expr} {scope : Scope} {pos : Pos} {it : Addr} {fp : List Addr} {bR : Nat → Heap → Prop} {J : It} {g : TG} {tt : TT} {te : TE} {pp : List (Addr × Obj)} {R : GenEnd} {Yp : Protocol}
noncomputable def Gf (J : It) (g : TG) (tt : TT) (te : TE) (stopAt : Bool) (Z : Bool → Hp → Prop) (W : Nat → Nat → St → Hp → Prop) : Prop := ∀ i m τ H, W i m τ H →
  (J.stop i H ∧ Z (!stopAt) H) ∨ (J.go i H ∧ ∀ x H', J.yld i H x H' → g x τ H' fun ay H2 => tt ay H2 fun b H3 => if b = true then te ay H3 fun y H4 => ∃ c, y = .bl c ∧ (if c = stopAt then Z stopAt H4 else ∃ m', m' < m ∧ W (i + 1) m' ay H4) else ∃ m', m' < m ∧ W (i + 1) m' ay H3)
theorem AD (hA : Y.A = A2.over (.compLoop (.GeneratorExp elt [⟨tg, iter, ifs, 0⟩] scope pos) 0 (.ref it) .none Y.env) []) (oE : Y.xe = fun _ _ => False) (hc : Y.calm = true) (qJ : Y.env.scope.isCoroutine = false)
    (T : Turn Y.prog Y.w Y.K tg J fp it bR) (hg : PG Y tg g) (ht : fX Y ifs tt) (he : PE Y elt te) (stat : ∀ {H' : Hp}, (∀ b ∈ fp, H' b = none) → ∀ b ∈ fp, cM Y pp H' b)
    {W : Nat → Nat → St → Hp → Prop} {Z : Bool → Hp → Prop} {stopAt : Bool} (turn : Gf J g tt te stopAt Z W)
    (hR : ∀ n s₀ aE τ H, Inv Y pp τ H aE → Z (!stopAt) H → R n s₀ (.ok .next) aE)
    (hY : ∀ n s₀ s sE c τ H, Inv Y pp τ H s → (c = stopAt → Z stopAt H) → (c ≠ stopAt → ∀ cS, nK s cS → sE (.send .none) cS) → Yp n s₀ (.bool c) s sE) :
    ∀ (m n i : Nat) (τ : St) (H : Hp) (s s₀ : Shared), m < n → W i m τ H → Inv Y pp τ H s → bR i s.heap → (∀ b ∈ fp, H b = none) →
      Seg (model Y.prog Y.w) A2 R Yp n s₀ (.compLoop (.GeneratorExp elt [⟨tg, iter, ifs, 0⟩] scope pos) 0 (.ref it) .none Y.env)
        ((model Y.prog Y.w).den (.compLoop (.GeneratorExp elt [⟨tg, iter, ifs, 0⟩] scope pos) 0 (.ref it) .none Y.env)) [] s := by
  intro m
  induction m using Nat.strongRecOn with
  | ind m ih =>
    intro n i τ H s s₀ MQ w I st fr
    show Seg _ A2 _ _ _ s₀ _ ((compTurn (.GeneratorExp elt [⟨tg, iter, ifs, 0⟩] scope pos) 0 (.ref it) .none Y.env).onRaise (leaving Y.env)) [] s
    rw [compTurn_gen, Sem.onRaise_eq_wrap]
    rcases turn i m τ H w with ⟨stop, qn⟩ | ⟨go, step⟩
    · refine seg_bind_wrap (wpAny_standAt ?_)
      have d := T.done Y rfl rfl rfl hc i pp s τ H (fun _ _ => False) I (stat fr) st stop
      rw [hA] at d
      refine seg_bind_wrap (wpAny_mono d (fun r s1 ⟨hr, I1⟩ => ?_) fun _ _ z => z.elim)
      subst hr
      exact seg_end (.ok .next) (hR _ _ _ _ _ I1 qn)
    · refine seg_bind_wrap (wpAny_standAt ?_)
      have d := T.item Y rfl rfl rfl hc i pp s τ H (fun _ _ => False) I (stat fr) st go
      rw [hA] at d
      refine seg_bind_wrap (wpAny_mono d (fun r s4 ⟨u, hr, h4⟩ => ?_) fun _ _ z => z.elim)
      subst hr
      refine seg_bind_wrap (wpAny_mono h4 (fun _ s5 ⟨x, H5, I5, r5, y5, gf, oq⟩ => ?_) fun _ _ z => z.elim)
      have ot := I5.pinned (stat oq) (T.obj _ _ gf)
      have back : ∀ {ik : St} {H7 : Hp} {s7 : Shared}, Inv Y (pp ++ ie fp s5.heap) ik H7 s7 → bR (i + 1) s7.heap ∧ ∀ b ∈ fp, H7 b = none := fun {ik H7 s7} I7 => by
        refine ⟨T.keep _ _ _ gf fun b hb o e => (I7.pin (b, o) (List.mem_append_right _ (List.mem_append_right _ (cA hb e)))).1, fun b hb => ?_⟩
        obtain ⟨o, e, d⟩ := T.obj _ _ gf b hb
        exact (I7.pin (b, o) (List.mem_append_right _ (List.mem_append_right _ (cA hb e)))).2.1
      have d2 := hg _ s5 τ H5 x u _ ot r5 (step x H5 y5)
      rw [hA, oE] at d2
      refine seg_bind_wrap (wpAny_mono d2 (fun _ s6 ⟨iD, H6, I6, q6⟩ => ?_) fun _ _ z => z.elim)
      have d3 := ht _ s6 iD H6 _ I6 q6
      rw [hA, oE] at d3
      refine seg_bind_wrap (wpAny_mono d3 (fun ok s7 ⟨H7, I7, q7⟩ => ?_) fun _ _ z => z.elim)
      have hy : ∀ v, yieldOut Y.env v = yieldValue v := fun v => by simp only [yieldOut, qJ, Bool.false_eq_true, if_false]
      cases ok with
      | false =>
        simp only [Bool.false_eq_true, if_false] at q7 ⊢
        obtain ⟨m', lH, w7⟩ := q7
        exact seg_again rfl (ih m' lH n (i + 1) iD H7 s7 s₀ (by omega) w7 I7.ei (back I7).1 (back I7).2)
      | true =>
        simp only [if_true] at q7 ⊢
        simp only [hy]
        rw [Sem.bind_eq_wrap', Sem.bind_eq_wrap', Sem.wrap_wrap, Sem.wrap_wrap]
        have d4 := he _ s7 iD H7 _ I7 q7
        rw [hA, oE] at d4
        refine seg_wrap (wpAny_mono d4 (fun yv s8 ⟨y, H8, I8, r8, q8⟩ => ?_) fun _ _ z => z.elim)
        obtain ⟨c, ey, q8⟩ := q8
        subst ey
        cases (show yv = Value.bool c from r8)
        obtain ⟨n, rfl⟩ : ∃ n', n = n' + 1 := ⟨n - 1, by omega⟩
        refine seg_at (seg_yield rfl rfl rfl (hY _ _ _ _ c iD H8 I8.ei (fun e => by rw [if_pos e] at q8; exact q8) fun e cS ok => ?_))
        rw [if_neg e] at q8
        obtain ⟨m', lH, w8⟩ := q8
        have I9 := I8.nL ok
        exact seg_again rfl (ih m' lH n (i + 1) iD H8 cS cS (by omega) w8 I9.ei (back I9).1 (back I9).2)
end
noncomputable abbrev eA (elt tg iter : Expr) (ifs : List Expr) (scope : Scope) (pos : Pos) : Expr := .GeneratorExp elt [⟨tg, iter, ifs, 0⟩] scope pos
noncomputable abbrev Gg (X : Cx) (N' : List Str) (scope : Scope) (cl : List (Str × Addr)) (C : Addr) (code : Value) (A' : Around) (s : Shared) (H : Hp) (fp : List Addr) : Cx :=
  cxBlock X N' (genEnv scope cl C code builtinsNs X.env) A' (genEnv scope cl C code builtinsNs X.env :: X.stack) s H fp
noncomputable abbrev nM (X : Cx) (N' : List Str) (scope : Scope) (k : Nat) (P : Cx → Prop) : Prop := ∀ (cl : List (Str × Addr)) (C : Addr) (code : Value) (A' : Around) (s : Shared) (H : Hp) (fp : List Addr), cF k A' → P (Gg X N' scope cl C code A' s H fp)
structure L1 (X : Cx) (pins : List (Addr × Obj)) (σ : St) (N' : List Str) (scope : Scope) (tn : Nat) (idx : List Nat) (k : Nat) (elt tg iter : Expr) (ifs : List Expr) (pos : Pos) (J : It) (H3 : Hp) (a : Addr) (s5 : Shared)
    (Y : Cx) (it : Addr) (fp : List Addr) (bR : Nat → Heap → Prop) (g : Nat) (pp : List (Addr × Obj)) : Prop where
  inv : Inv Y pp (bj tn idx σ) H3 s5
  isg : ∀ {τ : St} {H' : Hp} {s' : Shared}, Inv Y pp τ H' s' → s'.heap.IsGen a g
  st : s5.gens[g]? = some (.fresh (.compStart (eA elt tg iter ifs scope pos) 0 (.ref it) .none Y.env))
  T : Turn Y.prog Y.w Y.K tg J fp it bR
  tn0 : bR 0 s5.heap
  fr : ∀ b ∈ fp, H3 b = none
  stat : ∀ {H' : Hp}, (∀ b ∈ fp, H' b = none) → ∀ b ∈ fp, cM Y pp H' b
  out : ∀ {τ : St} {H' : Hp} {s' : Shared}, Inv Y pp τ H' s' → Inv X pins σ H' s'
  A : Y.A = X.A.in4.in1.over (.compLoop (eA elt tg iter ifs scope pos) 0 (.ref it) .none Y.env) []
  xe : Y.xe = fun _ _ => False
  calm : Y.calm = true
  co : Y.env.scope.isCoroutine = false
  gsz : ∀ {τ : St} {H' : Hp} {s' : Shared}, Inv Y pp τ H' s' → g < s'.gens.size
  blk : ∀ P : Cx → Prop, nM X N' scope k P → P Y
  prog : Y.prog = X.prog
  w : Y.w = X.w
section
variable {X : Cx} {tg elt iter : Expr} {ifs : List Expr} {scope : Scope} {pos : Pos} {N' : List Str} {tn : Nat} {idx : List Nat} {wi : TI} {g : TG} {tt : TT} {te : TE} {c P : Addr} {k : Nat}
noncomputable def Gh (P : Addr) (wi : TI) (R : It → Hp → Prop) : St → Hp → Prop := fun σ H => wi σ H fun J H1 => Tb P H1 ∧ ∀ ps, TriplesOk ps.toList → R J (upd H1 P (.cE ps))
theorem AF {pins : List (Addr × Obj)} {s : Shared} {σ : St} {H : Hp} {QQ : Value → Shared → Prop} {R : It → Hp → Prop} (hr : cF (k + 1) X.A) (hc : X.calm = true) (B : aB X.N X.env.scope scope N' tn idx)
    (h0 : scope.names.lookup (".0" : Str) = some .local) (qJ : scope.isCoroutine = false) (oF : X.env.code = .ref c) (hd : PySem.W.CodeHd X.base c P) (jw : ∃ bm ob, BMod X.base mainGlobals X.mg bm ob)
    (hi : PI X tg iter wi) (hs : ∀ x, genFold iter X.env x = pure x) (I : Inv X pins σ H s) (h : Gh P wi R σ H)
    (q : ∀ J H3 a s5 Y it fp bR gn pp, L1 X pins σ N' scope tn idx k elt tg iter ifs pos J H3 a s5 Y it fp bR gn pp → R J H3 → QQ (.ref a) s5) :
    wpAny (model X.prog X.w) X.A (eval (eA elt tg iter ifs scope pos) X.env) QQ X.xe s := by
  obtain ⟨cl, fb, cG, ez⟩ := eu (scope := scope) (env := X.env) fun n hn => I.ok.has n ((B.2.1 _ hn).2.2 rfl)
  refine wpAny_GeneratorExp_make qJ fb (fun y hy => (B.2.1 y hy).1) h0 B.1 hr.depth (thn (hi pins s σ H _ I h) fun xv s1 h1 => thn h1 fun m5 s2 h2 => ?_) hs
  obtain ⟨it, fp, bR, J, H2, e, I2, T, gH, f2, ⟨ps, hP, MR⟩, q2⟩ := h2
  subst e
  refine ⟨I2.nolimit, pN I2 oF hd hP MR fun code jX s3 Gi I3 kp OQ => ?_⟩
  obtain ⟨bm, ob, bmod⟩ := jw
  have sF := bmod.keeps I3.bk
  refine wpAny_builtinsFor (by rw [I3.ok.glob]; exact sF.ns) sF.name sF.ne sF.obj sF.cls sF.dict sF.data ?_
  intro h' E8 gJ
  have Kq : ∀ b ∈ fp, b ≠ P := fun b hb z => by have := (f2 b hb).1; rw [z, hP] at this; cases this
  have jr : bR 0 s3.heap := T.keep _ _ _ gH fun b hb o e => kp b o (Kq b hb) e
  have iC : ∀ b ∈ fp, b < s3.heap.objs.size := fun b hb => let ⟨o, e, _⟩ := T.obj _ _ jr b hb; Heap.lt_size e
  have f3 : ∀ b ∈ fp, cM X pins (upd H2 P (.cE jX)) b := fun b hb => ⟨by rw [ai (Kq b hb)]; exact (f2 b hb).1, (f2 b hb).2⟩
  have hsz : h'.objs.size = s3.heap.objs.size + 1 := by rw [gJ.1, Heap.size_push]
  have Jn : ∀ b o, s3.heap.get? b = some o → h'.get? b = some o := fun b o e => gJ.extBut b o (Nat.ne_of_lt (Heap.lt_size e)) (Heap.get?_push_of_some _ e)
  have Kr : Gn s3.gens.size (s3.gens.push (.fresh (.compStart (eA elt tg iter ifs scope pos) 0 (.ref it) .none (genEnv scope cl s3.heap.objs.size code builtinsNs X.env)))) := ⟨AllBare.push I3.bare.1 rfl, by rw [Array.size_push]; exact Nat.le_succ _⟩
  have Ks : Inv X pins σ (upd H2 P (.cE jX)) { s3 with gens := s3.gens.push (.fresh (.compStart (eA elt tg iter ifs scope pos) 0 (.ref it) .none (genEnv scope cl s3.heap.objs.size code builtinsNs X.env))) } := I3.nL ⟨rfl, rfl, Kr⟩
  have hA : (X.A.in4.in1.over (.compLoop (eA elt tg iter ifs scope pos) 0 (.ref it) .none (genEnv scope cl s3.heap.objs.size code builtinsNs X.env)) []).frames = some (genEnv scope cl s3.heap.objs.size code builtinsNs X.env :: X.stack) := by
    show pushEnvs [_] (pushEnvs [] X.A.frames) = _
    rw [I.ok.frames]; rfl
  have Jo : cF k (X.A.in4.in1.over (.compLoop (eA elt tg iter ifs scope pos) 0 (.ref it) .none (genEnv scope cl s3.heap.objs.size code builtinsNs X.env)) []) := by
    refine ⟨hr.hd, ?_, ?_⟩
    · show X.A.depth + 0 + 1 + 3 * k + 5 < recursionLimit
      have := hr.dp
      omega
    · show X.A.units + 1 + 1 + 1 + 1 + 1 + 0 + 3 + 16 * k + 200 < cLine
      have := hr.un
      omega
  generalize sG : ({ cls := .type "generator", data := .fields #[.int s3.gens.size 0, .str "<genexpr>" (s3.toks + 1), .str (X.env.qual ++ "<genexpr>") (s3.toks + 1 + 1)] } : Obj) = m8
  have rO : ∀ b o, s3.heap.get? b = some o → (h'.push m8).get? b = some o := fun b o e => Heap.get?_push_of_some _ (Jn b o e)
  have L4 : m8.isFreed = false := by rw [← sG]; rfl
  have MS : (h'.push m8).get? h'.objs.size = some m8 := Heap.get?_push_size _ L4
  have MT : h'.objs.size ≠ s3.heap.objs.size := by rw [hsz]; exact Nat.succ_ne_self _
  have MU : upd H2 P (.cE jX) h'.objs.size = none := I3.hok.fresh (by rw [hsz]; exact Nat.le_succ _)
  have I5 := lD (X := X) (N' := N') (A' := X.A.in4.in1.over (.compLoop (eA elt tg iter ifs scope pos) 0 (.ref it) .none (genEnv scope cl s3.heap.objs.size code builtinsNs X.env)) []) (env' := genEnv scope cl s3.heap.objs.size code builtinsNs X.env) (stack' := genEnv scope cl s3.heap.objs.size code builtinsNs X.env :: X.stack) (ex := fp) (h1 := h'.push m8) (m0 := fun y => if y = ".0" then some (.ref it) else none)
    (g' := s3.gens.push (.fresh (.compStart (eA elt tg iter ifs scope pos) 0 (.ref it) .none (genEnv scope cl s3.heap.objs.size code builtinsNs X.env)))) (tk := s3.toks + 1 + 1 + 1) (aK := bj tn idx σ) Ks B.1 rfl I3.ok.blt.symm cG (fun x hx => by
      have gI : scope.names.lookup x = some .cell ∨ scope.names.lookup x = some .free := hx
      rcases gI with z | z
      · exact absurd rfl ((B.2.1 _ (PySem.mem_of_lookup z)).1)
      · exact ez x (PySem.mem_of_lookup z)) (fun z => I.ok.hd z) hA (.inr ⟨rfl, rfl⟩) (Nat.le_refl _) f3 iC (Un.kept rO) (I3.hok.kept rO) (I3.hok.fresh (Nat.le_refl _)) rO (E8.push _) (fun i x v e1 e2 e3 => by
      obtain ⟨fr, j, e4, e5⟩ := B.at e1 e2
      have kx := (B.2.1 _ (PySem.mem_of_lookup fr)).2.2 rfl
      exact ⟨.inr fr, .inr kx, kx, j, e4, e5⟩) (B.len σ) (Gn.self Kr)
  have MV : h'.objs.size ∉ fo X.stack := fun z => by
    rcases List.mem_cons.mp (I3.fw _ z) with q | q
    · exact Nat.ne_of_gt (Nat.lt_of_lt_of_le I3.lt (by rw [hsz]; exact Nat.le_succ _)) q
    · exact I3.E4 (by rw [hsz]; exact Nat.le_succ _) q
  have rN : ∀ v, m8.data ≠ .cell v := by rw [← sG]; intro v z; cases z
  have I6 := I5.pJ (pins' := [(h'.objs.size, m8)]) (fun p hp => by
    rcases List.mem_singleton.mp hp with rfl
    exact ⟨MS, MU, MT, MV, rN⟩)
  refine q J _ _ _ (Gg X N' scope cl s3.heap.objs.size code _ _ _ fp) it fp bR s3.gens.size [(h'.objs.size, m8)] ⟨I6, fun {τ H' s'} J' => ?_, ?_, T, T.keep _ _ _ jr fun b _ o e => rO b o e, fun b hb => (f3 b hb).1, fun {H'} hn b hb => ?_, fun {τ H' s'} J' => ?_, rfl, rfl, hc, qJ, fun {τ H' s'} J' => ?_, fun Pp hb => hb cl _ code _ _ _ fp Jo, rfl, rfl⟩ (q2 jX Gi)
  · have := (J'.pin (h'.objs.size, m8) (List.mem_append_right _ (List.mem_singleton.mpr rfl))).1
    exact ⟨m8, _, _, this, by rw [← sG], by rw [← sG], by rw [← sG]⟩
  · exact Array.getElem?_push_size ..
  · refine ⟨hn b hb, Nat.ne_of_lt (iC b hb), fun z => ?_, .inl hb, fun x c e => (f2 b hb).2.2.2.2.1 x c (cG x c e), fun p hp z => ?_⟩
    · rcases List.mem_cons.mp (I2.fw b z) with q | q
      · exact (f2 b hb).2.1 q
      · exact (f2 b hb).2.2.1 q
    · rcases List.mem_singleton.mp hp with rfl
      have z' : h'.objs.size = b := z
      have := iC b hb
      rw [← z', hsz] at this
      exact absurd this (Nat.not_lt.mpr (Nat.le_succ _))
  · exact Ks.oh J'.os J'.base J'.hok J'.bare fun b hb => ⟨(f3 b hb).2.2.2.1, (f3 b hb).2.1, (f3 b hb).2.2.2.2.1, (f3 b hb).2.2.2.2.2⟩
  · have := J'.bare.2
    have e : (Gg X N' scope cl s3.heap.objs.size code (X.A.in4.in1.over (.compLoop (eA elt tg iter ifs scope pos) 0 (.ref it) .none (genEnv scope cl s3.heap.objs.size code builtinsNs X.env)) []) { s3 with gens := s3.gens.push (.fresh (.compStart (eA elt tg iter ifs scope pos) 0 (.ref it) .none (genEnv scope cl s3.heap.objs.size code builtinsNs X.env))) } (upd H2 P (.cE jX)) fp).s₀.gens.size = s3.gens.size + 1 := by
      show (s3.gens.push _).size = _
      rw [Array.size_push]
    rw [e] at this
    omega
theorem AG {prog : Program} {w : World} {A : Around} {a : Addr} {R' : Result → Shared → Prop} (In : Nat → Shared → Prop)
    (turn : ∀ n s, In n s → wpAny (model prog w) A.in1 (pyNext (.ref a)) (fun r s1 => match r with
      | none => R' (.ok (.ret (.bool true))) s1
      | some v => ∃ c, v = .bool c ∧ if c = true then ∃ m, m < n ∧ In m s1 else R' (.ok (.ret (.bool false))) s1) (fun e s' => R' (.error e) s') s) :
    ∀ (n : Nat) (s : Shared), In n s → codeAny (model prog w) A (.builtin "all.loop" ⟨[.ref a], []⟩) R' s := by
  intro n
  induction n using Nat.strongRecOn with
  | ind n ih =>
    intro s h
    refine codeAny_builtin F.entry_all_loop ?_
    rw [Around.under_plainId F.plain_all_loop _]
    show wpAny _ A.in1 (pyNext (.ref a) >>= _) _ _ s
    refine wpAny_bind (wpAny_mono (turn n s h) (fun r s1 q => ?_) fun _ _ z => z)
    cases r with
    | none => exact wpAny_bind (wpAny_rule (wpAny_pure q))
    | some v =>
      obtain ⟨c, e, q⟩ := q
      subst e
      refine wpAny_bind (wpAny_holding (wpAny_truthy_bool ?_))
      refine wpAny_bind (wpAny_letGo ?_)
      cases c with
      | true =>
        simp only [if_true] at q ⊢
        obtain ⟨m, hm, hI⟩ := q
        exact wpAny_pure ⟨plainId_quiet F.plain_all_loop _, ih m hm s1 hI⟩
      | false =>
        simp only [Bool.false_eq_true, if_false] at q ⊢
        exact wpAny_bind (wpAny_rule (wpAny_pure q))
theorem lJ {s : Shared} {g : Nat} {x : GenState} {n : Nat} (h : Gn n s.gens) (hx : x.bare = true) : Gn s.gens.size (s.setGen g x).gens := by
  refine ⟨fun y hy => ?_, ?_⟩
  · have F7 : y ∈ s.gens.setIfInBounds g x := hy
    rcases Array.mem_or_eq_of_mem_setIfInBounds F7 with z | z
    · exact h.1 y z
    · rw [z]; exact hx
  · show s.gens.size ≤ (s.gens.setIfInBounds g x).size
    rw [Array.size_setIfInBounds]
    exact Nat.le_refl _
theorem yg {s : Shared} {g : Nat} {x : GenState} (h : g < s.gens.size) : (s.setGen g x).gens[g]? = some x := by
  show (s.gens.setIfInBounds g x)[g]? = _
  rw [Array.getElem?_setIfInBounds_self]
  simp [h]
theorem yh {Y : Cx} {A2 : Around} {R : GenEnd} {Yp : Protocol} {n : Nat} {s₀ s : Shared} {it : Addr} {J : It} {fp : List Addr} {bR : Nat → Heap → Prop} (T : Turn Y.prog Y.w Y.K tg J fp it bR) {i : Nat} (st : bR i s.heap)
    (loop : Seg (model Y.prog Y.w) A2 R Yp n s₀ (.compLoop (eA elt tg iter ifs scope pos) 0 (.ref it) .none Y.env) ((model Y.prog Y.w).den (.compLoop (eA elt tg iter ifs scope pos) 0 (.ref it) .none Y.env)) [] s) :
    Seg (model Y.prog Y.w) A2 R Yp n s₀ (.compStart (eA elt tg iter ifs scope pos) 0 (.ref it) .none Y.env) ((model Y.prog Y.w).den (.compStart (eA elt tg iter ifs scope pos) 0 (.ref it) .none Y.env)) [] s := by
  show Seg _ A2 _ _ _ s₀ _ ((compStart (eA elt tg iter ifs scope pos) 0 (.ref it) .none Y.env).onRaise (leaving Y.env)) [] s
  unfold compStart
  rw [Sem.onRaise_eq_wrap]
  show Seg _ A2 _ _ _ s₀ _ ((ask >>= _).wrap _ _ _ _) [] s
  refine seg_bind_wrap (wpAny_askSetting ?_)
  split
  · exact seg_again rfl loop
  · first
      | exact seg_bind_wrap (wpAny_rule (seg_bind_wrap (wpAny_standAt (seg_bind_wrap (T.self _ i s _ _ st (seg_again rfl loop))))))
      | (refine seg_bind_wrap (wpAny_rule ?_); show Seg _ A2 _ _ _ s₀ _ ((standAt iter.pos >>= _).wrap _ _ _ _) [] s; exact seg_bind_wrap (wpAny_standAt (seg_bind_wrap (T.self _ i s _ _ st (seg_again rfl loop)))))
noncomputable def Gj (P : Addr) (tn : Nat) (idx : List Nat) (wi : TI) (g : TG) (tt : TT) (te : TE) : TE := fun σ H Q => Gh P wi (fun J H1 => ∃ W : Nat → Nat → St → Hp → Prop, (∃ m, W 0 m (bj tn idx σ) H1) ∧ Gf J g tt te false (fun b H2 => Q (.bl b) H2) W) σ H
theorem Gk {p sH : Pos} (hr : cF (k + 1) X.A) (hc : X.calm = true) (B : aB X.N X.env.scope scope N' tn idx)
    (h0 : scope.names.lookup (".0" : Str) = some .local) (qJ : scope.isCoroutine = false) (oF : X.env.code = .ref c) (hd : PySem.W.CodeHd X.base c P) (jw : ∃ bm ob, BMod X.base mainGlobals X.mg bm ob)
    (qK : Gl X "all") (hm : X.mg "all" = none) (hi : PI X tg iter wi) (hg : nM X N' scope k fun Y => PG Y tg g) (ht : nM X N' scope k fun Y => fX Y ifs tt) (he : nM X N' scope k fun Y => PE Y elt te)
    (hs : ∀ x, genFold iter X.env x = pure x := by intro _; rfl) : PE X (.Call (.Name "all" p) [eA elt tg iter ifs scope sH] [] pos) (Gj P tn idx wi g tt te) := by
  refine ⟨?_⟩
  intro pins s σ H Q I h
  refine wpAny_Call_Name_kw (fx I qK hm PyProof.Rows.boot_all ?_)
  refine PyProof.Rows.callWith_builtin1 ?_ rfl rfl
  show wpAny _ _ (spliced ((false, eval (eA elt tg iter ifs scope sH) X.env) :: [])) _ _ s
  refine Calls.spliced_cons (AF hr hc B h0 qJ oF hd jw hi hs I h ?_)
  intro J H3 a s5 Y it fp bR gn pp G ⟨W, ⟨m0, w0⟩, turn⟩
  refine Calls.spliced_nil ?_
  refine call_function_tree F.kind_all F.plain_all F.entry_all (F.args_all1 _) ?_
  unfold Builtin.«all»
  refine wpAny_bind (m := oneArg "all" _) (wpAny_pure ?_)
  refine wpAny_bind (wpAny_pyIter_gen (G.isg G.inv) ?_)
  refine wpAny_pure ⟨plainId_quiet F.plain_all_loop _, ?_⟩
  have Gm := AD (A2 := X.A.in4.in1) (pp := pp) (R := fun n s₀ r aE => r = .ok .next ∧ ∃ τ H, Inv Y pp τ H aE ∧ Q (.bl true) H)
    (Yp := fun n s₀ v s sE => ∃ c τ H, v = .bool c ∧ Inv Y pp τ H s ∧ (c = false → Q (.bl false) H) ∧ (c ≠ false → ∀ cS, nK s cS → sE (.send .none) cS)) G.A G.xe G.calm G.co G.T (G.blk _ hg) (G.blk _ ht) (G.blk _ he) G.stat turn
    (fun n s₀ aE τ H J z => ⟨rfl, τ, H, J, z⟩) (fun n s₀ s sE c τ H J z1 z2 => ⟨c, τ, H, rfl, J, z1, z2⟩)
  have hP := G.prog
  have hW := G.w
  rw [hP, hW] at Gm
  refine AG (A := X.A) (fun n s => (∃ τ H, Inv Y pp τ H s) ∧ ∃ gs, s.gens[gn]? = some gs ∧ ∀ cS, nK s cS → gs.Goes (model X.prog X.w) X.A.in4.in1 (fun n s₀ r aE => r = .ok .next ∧ ∃ τ H, Inv Y pp τ H aE ∧ Q (.bl true) H)
    (fun n s₀ v s sE => ∃ c τ H, v = .bool c ∧ Inv Y pp τ H s ∧ (c = false → Q (.bl false) H) ∧ (c ≠ false → ∀ cS, nK s cS → sE (.send .none) cS)) n (.send .none) cS) ?_ (m0 + 1) s5 ?_
  · rintro n s6 ⟨⟨τ, H6, I6⟩, gs, MX, sG⟩
    have OC := G.gsz I6
    refine wpAny_of_in1 (wpAny_of_in1 (wpAny_of_in1 ?_))
    show wpAny (model X.prog X.w) X.A.in4 (pyNext (.ref a)) _ _ s6
    refine wpAny_pyNext_genexpQ (A := X.A.in4) (P := fun n s₀ aE => ∃ τ H, Inv Y pp τ H aE ∧ Q (.bl true) H) hr.hd I6.nolimit hr.depth (G.isg I6) MX (sG _ ⟨rfl, rfl, lJ I6.bare rfl⟩) (fun v s1 Kt hb hv => ?_) (fun s1 hp h' hk => ?_)
    · obtain ⟨c, Ku, H1, e, I1, z1, z2⟩ := hv
      subst e
      refine ⟨c, rfl, ?_⟩
      have yi : nK s1 (s1.setGen gn Kt) := ⟨rfl, rfl, lJ I1.bare hb⟩
      cases c with
      | false =>
        rw [if_neg Bool.false_ne_true]
        exact ⟨.bl false, H1, G.out (I1.nL yi), rfl, z1 rfl⟩
      | true =>
        rw [if_pos rfl]
        have z3 := z2 (by decide)
        cases n with
        | zero => exact (z3 s1 ⟨rfl, rfl, I1.bare.self⟩).elim
        | succ m =>
          refine ⟨m, Nat.lt_succ_self _, ⟨Ku, H1, I1.nL yi⟩, Kt, yg (G.gsz I1), fun cS o => z3 cS ⟨o.1, o.2.1, ?_⟩⟩
          exact yi.2.2.trans o.2.2
    · obtain ⟨Ku, H1, I1, z1⟩ := hp
      have I2 := I1.kept (t' := s1.toks) hk
      have MY : nK { s1 with heap := h' } { s1.setGen gn .finished with heap := h' } := ⟨rfl, rfl, lJ (s := s1) I1.bare rfl⟩
      exact ⟨.bl true, H1, G.out (I2.nL MY), rfl, z1⟩
  · refine ⟨⟨_, _, G.inv⟩, _, G.st, fun cS o => ⟨rfl, ?_⟩⟩
    have I7 := G.inv.nL o
    have Kv : bR 0 cS.heap := by rw [o.1]; exact G.tn0
    have q := yh (iter := iter) (ifs := ifs) (scope := scope) (pos := sH) (elt := elt) G.T Kv (by rw [hP, hW]; exact Gm m0 (m0 + 1) 0 _ _ cS cS (Nat.lt_succ_self _) w0 I7 Kv G.fr)
    rw [hP, hW] at q
    exact q
end
section
variable {X : Cx} {tg l : Expr} {tl : TE}
theorem ed {xs : List V} {us : List Value} (r : Vals xs us) {j : Nat} (h : j < us.toArray.size) : RelV (xs.getD j .au) us.toArray[j] := by
  have hl := r.length
  have hj : j < xs.length := by simpa [hl] using h
  obtain ⟨u, e, q⟩ := r.get (i := j) (x := xs[j]) (List.getElem?_eq_getElem hj)
  have e2 : us.toArray[j] = u := by
    rw [List.getElem?_eq_some_iff] at e
    obtain ⟨h', e⟩ := e
    simpa using e
  rw [e2, List.getD_eq_getElem?_getD, List.getElem?_eq_getElem hj]
  exact q
theorem uM : cP X (.builtin "isinstance") (fun xs H Q => ∃ x T t b, xs = [x, .ty T] ∧ fL X.K H x t ∧ PySem.W.kitOne X.K t (.type T) = some b ∧ Q (.bl b) H) := by
  intro pins s σ H xs us Q I r h
  obtain ⟨x, T, t, b, rfl, ty, e, q⟩ := h
  obtain ⟨u, w', rfl, r1, r2⟩ := vals2 r
  cases (show w' = Value.type T from r2)
  exact xP I r1 ty e fun tk => ⟨.bl b, H, I.tok tk, rfl, q⟩
theorem m9 : ∀ {xs : List V} {us : List Value}, xs.length = us.length → (∀ (i : Nat) (v : V), xs[i]? = some v → ∃ u, us[i]? = some u ∧ RelV v u) → Vals xs us
  | [], [], _, _ => .nil
  | [], _ :: _, h, _ => by simp at h
  | _ :: _, [], h, _ => by simp at h
  | x :: xs, u :: us, h, g => by
    obtain ⟨u', e, r⟩ := g 0 x rfl
    have e' : u = u' := by simpa using e
    subst e'
    exact .cons r (m9 (by simpa using h) fun i v hv => by
      obtain ⟨w, e2, r2⟩ := g (i + 1) v (by simpa using hv)
      exact ⟨w, by simpa using e2, r2⟩)
theorem sI {e : Expr} {te : TE} {p p1 p2 pos : Pos} (hc : X.calm = true) (hg : Gl X "list") (hm : X.mg "list" = none) (Gp : Gl X "range") (Gq : X.mg "range" = none) (he : PE X e te) (hs : starEach [e] X.env = [(false, eval e X.env)] := by rfl) :
    PE X (.Call (.Name "list" p) [.Call (.Name "range" p1) [e] [] p2] [] pos) (fun σ H Q => te σ H fun x H1 => ∃ j : Int, x = .int j ∧ -(2 ^ 24) ≤ j ∧ j ≤ 2 ^ 24 ∧ ∀ l, H1 l = none → Q (.ref l) (upd H1 l (.lst ((List.range j.toNat).map fun i => V.int (i : Nat))))) := by
  refine ⟨?_⟩
  intro pins s σ H Q I h
  refine wpAny_Call_Name_kw (fx I hg hm (by decide +kernel : bootBuiltins "list" = some (.type "list")) ?_)
  refine PyProof.Rows.callWith_type1 ?_ rfl rfl
  show wpAny _ _ (spliced ((false, eval (.Call (.Name "range" p1) [e] [] p2) X.env) :: [])) _ _ s
  refine Calls.spliced_cons ?_
  refine Call_ (fx I Gp Gq boot_range (PyProof.Rows.callWith_type1 ?_ hs rfl))
  rw [hs]
  refine Calls.spliced_cons (thn (he pins s σ H _ I h) fun v s1 ⟨x, H1, I1, r1, q1⟩ => Calls.spliced_nil ?_)
  obtain ⟨j, rfl, b1, b2, q⟩ := q1
  obtain ⟨t, rfl⟩ := r1
  refine call_range_1 ?_
  refine Calls.spliced_nil ?_
  refine call_list_range (n := j.toNat) (I1.ok.hd hc) (IsRange.new ..) (small_one (by omega) (by omega) (by omega) (by omega)) (by rw [PyProof.Rows.rangeSize_nat]; simp) (by omega) fun h' tk fN c' hk hS hit => ?_
  have I2 : Inv X pins σ H1 { s1 with heap := s1.heap.push { cls := .type "range", data := .fields #[.int 0 s1.toks, .int j t, .int 1 (s1.toks + 1)] }, toks := s1.toks + 1 + 1 } := I1.kept fun b o e => Heap.get?_push_of_some _ e
  obtain ⟨hsz, i5⟩ := hit
  have rv : Vals ((List.range j.toNat).map fun i => V.int (i : Nat)) fN.toList := by
    refine m9 (by simpa using hsz.symm) fun i v e => ?_
    rw [List.getElem?_map] at e
    cases q2 : (List.range j.toNat)[i]? with
    | none => rw [q2] at e; cases e
    | some k =>
      rw [q2] at e
      have ek : k = i := by
        obtain ⟨_, e3⟩ := List.getElem?_eq_some_iff.mp q2
        simpa using e3.symm
      have hi : i < fN.size := by
        have := (List.getElem?_eq_some_iff.mp q2).1
        rw [List.length_range] at this
        omega
      obtain ⟨t2, e4⟩ := i5 i fN[i] (by simp [hi])
      refine ⟨fN[i], by simp [hi], ?_⟩
      rw [e4]
      have e5 : v = V.int (k : Nat) := (Option.some.inj e).symm
      rw [e5, ek]
      exact ⟨t2, by simp⟩
  have ob : ObjOk X.prog X.w (upd H1 (s1.heap.push { cls := .type "range", data := .fields #[.int 0 s1.toks, .int j t, .int 1 (s1.toks + 1)] }).objs.size (.lst ((List.range j.toNat).map fun i => V.int (i : Nat)))) h' (s1.heap.push { cls := .type "range", data := .fields #[.int 0 s1.toks, .int j t, .int 1 (s1.toks + 1)] }).objs.size (.lst ((List.range j.toNat).map fun i => V.int (i : Nat))) := by
    refine ⟨?_, fN.toList, c', rv, by simpa using hS⟩
    rw [List.length_map, List.length_range]
    exact Nat.le_trans (show j.toNat ≤ 2 ^ 24 by omega) (by decide)
  exact ⟨.ref _, _, I2.laid (t' := tk) hk (Nat.le_refl _) ob, rfl, q _ (I2.hok.fresh (Nat.le_refl _))⟩
end
theorem sJ : bootBuiltins "int" = some (.type "int") := by decide +kernel
theorem oG : bootBuiltins "str" = some (.type "str") := by decide +kernel
theorem pO : bootBuiltins "bool" = some (.type "bool") := by decide +kernel
theorem dF : bootBuiltins "tuple" = some (.type "tuple") := by decide +kernel
theorem gP : bootBuiltins "list" = some (.type "list") := by decide +kernel
theorem sL : bootBuiltins "min" = some (.builtin "min") := by decide +kernel
theorem yj : bootBuiltins "max" = some (.builtin "max") := by decide +kernel
theorem Gr : bootBuiltins "abs" = some (.builtin "abs") := by decide +kernel
theorem aD : bootBuiltins "isinstance" = some (.builtin "isinstance") := by decide +kernel
structure Bl (mg : Str → Option Value) : Prop where
  len_ : mg "len" = none
  range_ : mg "range" = none
  min_ : mg "min" = none
  max_ : mg "max" = none
  abs_ : mg "abs" = none
  list_ : mg "list" = none
  tuple_ : mg "tuple" = none
  int_ : mg "int" = none
  str_ : mg "str" = none
  bool_ : mg "bool" = none
  isinstance_ : mg "isinstance" = none
  all_ : mg "all" = none
  set_ : mg "set" = none
  sorted_ : mg "sorted" = none
  zip_ : mg "zip" = none
  enumerate_ : mg "enumerate" = none
  sum_ : mg "sum" = none
  reversed_ : mg "reversed" = none
  divmod_ : mg "divmod" = none
  any_ : mg "any" = none
  ValueError_ : mg "ValueError" = none
structure Df (K : PySem.W.Frag) (mg : Str → Option Value) (x : Str) (st : Stmt) (ps : List Str) (f : Addr) (fd : FuncData) : Prop where
  fn : qG K x x st f fd
  bd : Binds K fd ps []
  mg : mg x = some (.ref f)
structure Cm (base : Heap) (fd : FuncData) (c P : Addr) : Prop where
  code : fd.code = .ref c
  hd : PySem.W.CodeHd base c P
section
variable {P : Program} {w : World} {K : PySem.W.Frag} {mg : Str → Option Value} {base : Heap}
theorem qG.MZ {x qual : Str} {st : Stmt} {f : Addr} {fd : FuncData} {N ps : List Str} {k : Nat} {sp : Sp} (F : qG K x qual st f fd) (S : aU N ps (aj st)) (len : ∀ vs H Q E, sp vs H Q E → vs.length = ps.length)
    (ow : ∀ (A : Around) (outer : List Env) (s : Shared) (H : Hp) (vs : List V) (Q : VK) (E : XK), cF k (A.deeper (envOfC qual (aj st) s.heap.objs.size f fd.code)) → sp vs H Q E →
      ∃ t, fU (fM bc P w K mg base N qual (aj st) f fd.code A outer s H E).xD (dr st) t ∧ t { nx := fun _ H' => Q .au H', rt := Q } (start N vs) H) : FnOk P w K mg base bc (k + 1) f fd ps sp := by
  obtain ⟨oc, od, kV, doc, pm, an, dN, ct, lz, rfl, lk, gd⟩ := F.ex
  refine Ci lk gd S len fun A outer s H vs Q E hr m6 => ?_
  obtain ⟨t, h, q⟩ := ow A outer s H vs Q E hr m6
  exact ⟨t, h.xD, q⟩
end
noncomputable def OS : V → Bool | .int _ => true | _ => false
noncomputable def below (m : Int) : V → Bool | .int i => decide (0 ≤ i) && decide (i < m) | _ => false
structure dQ (ae : List (List Int)) (w : Nat) : Prop where
  one : 1 ≤ ae.length
  nine : ae.length ≤ 9
  wid : w = 2 ∨ w = 3
  row : ∀ r ∈ ae, r.length = w ∧ ∀ g ∈ r, 0 ≤ g ∧ g < (ae.length : Int)
theorem iI {α β : Type} {F : α → β → Prop} : ∀ {xs : List α} {ys : List β} {i : Nat} {y : β}, Paired F xs ys → ys[i]? = some y → ∃ x, xs[i]? = some x ∧ F x y
  | _, _, _, _, .nil, e => by simp at e
  | _, _, 0, _, .cons f _, e => by simp at e; subst e; exact ⟨_, rfl, f⟩
  | _, _, i + 1, y, .cons _ t, e => by
    obtain ⟨x, h1, h2⟩ := iI (i := i) (y := y) t (by simpa using e)
    exact ⟨x, by simpa using h1, h2⟩
noncomputable def Cp (tb : List Addr) (H : Hp) : Prop := ∀ p ∈ tb, Tb p H
noncomputable def Jp (H : Hp) (b : Addr) : Prop := ∃ c m : Int, H b = some (.lst [.int c, .int m]) ∧ 0 ≤ c ∧ 0 ≤ m
noncomputable def Runs (J : It) (ys : List V) (H : Hp) : Prop := ∀ i, (i < ys.length → J.go i H ∧ ∀ x H', J.yld i H x H' → H' = H ∧ ys[i]? = some x) ∧ (ys.length ≤ i → J.stop i H)
theorem AH {K : PySem.W.Frag} {a : Addr} {ys : List V} {H : Hp} (h : cN K H a ys) : Runs (Fv K a) ys H := fun i =>
  ⟨fun hi => ⟨⟨ys, ys[i], h, List.getElem?_eq_getElem hi⟩, fun x H' y => ⟨y.1, y.2 ys h⟩⟩, fun hi => ⟨ys, h, hi⟩⟩
theorem yk {K : PySem.W.Frag} {a : Addr} {ys : List V} {H : Hp} (h : bH K H a ys) : Runs (Fu K a) ys H := fun i =>
  ⟨fun hi => ⟨⟨ys, ys[i], h, List.getElem?_eq_getElem hi⟩, fun x H' y => ⟨y.1, y.2 ys h⟩⟩, fun hi => ⟨ys, h, hi⟩⟩
theorem kh {lo : Int} {n : Nat} {H : Hp} : Runs (xF lo n) ((List.range n).map fun i => V.int (lo + (i : Nat))) H := fun i => by
  have el : ((List.range n).map fun i => V.int (lo + (i : Nat))).length = n := by simp
  rw [el]
  refine ⟨fun hi => ⟨hi, fun x H' y => ?_⟩, fun hi => hi⟩
  obtain ⟨e1, e2⟩ := y
  refine ⟨e1, ?_⟩
  rw [e2, List.getElem?_map, List.getElem?_range hi]
  rfl
section
variable {X : Cx} {K : PySem.W.Frag}
theorem vk (h : X.K = K) : lB X (Km K) := h ▸ F1
theorem yl (h : X.K = K) : cP X (.builtin "len") (fun xs H Q => ∃ x n, xs = [x] ∧ FO K x H n ∧ Q (.int n) H) := h ▸ Av
theorem rE (h : X.K = K) : cP X (.type "list") (fun xs H Q => ∃ p ys, xs = [.ref p] ∧ (bH K H p ys ∨ cN K H p ys) ∧ ∀ l, H l = none → Q (.ref l) (upd H l (.lst ys))) := h ▸ su
theorem pP (h : X.K = K) : cP X (.type "tuple") (fun xs H Q => ∃ p ys, xs = [.ref p] ∧ ((bH K H p ys ∧ ∀ l, H l = none → Q (.ref l) (upd H l (.tup ys))) ∨ (cN K H p ys ∧ Q (.ref p) H))) := h ▸ rD
theorem sM (h : X.K = K) : cP X (.builtin "isinstance") (fun xs H Q => ∃ x T t b, xs = [x, .ty T] ∧ fL K H x t ∧ PySem.W.kitOne K t (.type T) = some b ∧ Q (.bl b) H) := h ▸ uM
theorem AI {tg l : Expr} {tl : TE} (h : X.K = K) (hl : PE X l tl) : PI X tg l (Ca K tl) := h ▸ Du hl
theorem DI {tg l : Expr} {tl : TE} (h : X.K = K) (hl : PE X l tl) : PI X tg l (Fw K tl) := h ▸ Fx hl
variable {o e : Expr} {es : List Expr} {to : TE} {t : TA} {name : Str} {apos aO : Pos} {T id : String} {r : V → List V → Hp → VK → Prop}
theorem DJ (h : X.K = K) (pa : PlainAttrs T) (slot : Slot T name id) (iZ : typeOf (.builtin id) = pure (.type "method_descriptor")) (hm : so X id r) (ho : PE X o to) (ej : attributeBase o name X.env (eval o X.env) = eval o X.env := by rfl) (hline : (apos.endLine == aO.line) = true := by rfl) :
    PE X (.Call (.Attribute o name apos) [] [] aO) (F3 K T r to) := h ▸ F4 pa slot iZ hm ho ej hline
theorem Gs (h : X.K = K) (pa : PlainAttrs T) (slot : Slot T name id) (iZ : typeOf (.builtin id) = pure (.type "method_descriptor")) (hm : so X id r) (ho : PE X o to) (ha : PA X (e :: es) t) (ej : attributeBase o name X.env (eval o X.env) = eval o X.env := by rfl)
    (kf : ((backTo aO (starEach (e :: es) X.env)).all (fun x => !x.1) && (backToKw aO (keywordEach [] X.env)).all (fun x => x.1.isSome)
      && decide ((e :: es).length + ([] : List Keyword).length + (if ([] : List Keyword).isEmpty then 0 else 1) < 30)) = true := by rfl)
    (hline : (apos.endLine == aO.line) = true := by rfl) (hs : starEach (e :: es) X.env = (false, eval e X.env) :: starEach es X.env := by rfl) (gh : (backTo aO (starEach es X.env)).any (·.1) = false := by rfl) :
    PE X (.Call (.Attribute o name apos) (e :: es) [] aO) (Kn K T r to t) := h ▸ Jj pa slot iZ hm ho ha ej kf hline hs gh
end
noncomputable abbrev bT (K : PySem.W.Frag) (x : Str) (st : Stmt) : Prop :=
  ∃ (f : Addr) (oc : Value) (od : Option Addr) (sl : Array (Option Value)) (kV dc pm : Value) (an : Option Addr) (cd ct : Value),
    PySem.W.nsIn K mainGlobals x = some (some (.ref f)) ∧ K.lookup f = some ⟨oc, od, .func (PySem.W.fnOf x x (fW st) (dr st) (aj st) .none kV dc pm an cd ct), sl⟩ ∧ PySem.W.codeIn K cd x = true ∧ PySem.W.keepIn K (.ref f) = true
theorem a9 {K : PySem.W.Frag} {x : Str} {st : Stmt} {f : Addr} {oc : Value} {od : Option Addr} {sl : Array (Option Value)} {kV dc pm : Value} {an : Option Addr} {cd ct : Value} (a : PySem.W.nsIn K mainGlobals x = some (some (.ref f)))
    (l : K.lookup f = some ⟨oc, od, .func (PySem.W.fnOf x x (fW st) (dr st) (aj st) .none kV dc pm an cd ct), sl⟩) (c : PySem.W.codeIn K cd x = true) (k : PySem.W.keepIn K (.ref f) = true) : bT K x st := ⟨f, oc, od, sl, kV, dc, pm, an, cd, ct, a, l, c, k⟩
section
variable {K : PySem.W.Frag} {mg : Str → Option Value} {h base : Heap}
theorem bT.df {x : Str} {st : Stmt} (d : bT K x st) (X : K.In h) (G : h.Ns mainGlobals mg) (ps : List Str)
    (hb : ∀ (kV doc pm : Value) (an : Option Addr) (dN ct : Value) (us : List Value), us.length = ps.length → bindArgs (PySem.W.fnOf x x (fW st) (dr st) (aj st) .none kV doc pm an dN ct) ⟨us, []⟩ = pure (ps.zip us)) :
    ∃ f fd, Df K mg x st ps f fd := by
  obtain ⟨f, oc, od, sl, kV, dc, pm, an, cd, ct, a, l, c, k⟩ := d
  have F := Gd (st := st) l c k
  exact ⟨f, _, F, F.binds hb, PySem.W.mg_of X G a⟩
theorem ym {x : Str} {st : Stmt} {ps : List Str} {f p : Addr} {fd : FuncData} (D : Df K mg x st ps f fd) (X : K.In h)
    (t : ∃ f o fd c, mg x = some (.ref f) ∧ h.get? f = some o ∧ o.data = .func fd ∧ fd.code = .ref c ∧ PySem.W.CodeHd h c p) (tr : ∀ c p, PySem.W.CodeHd h c p → PySem.W.CodeHd base c p) : ∃ c, Cm base fd c p := by
  obtain ⟨f', o, M7, c, e1, e2, e3, e4, e5⟩ := t
  obtain ⟨oc, od, kV, doc, pm, an, dN, ct, lz, rfl, lk, gd⟩ := D.fn.ex
  have e := D.mg.symm.trans e1
  cases e
  have q := (X _ _ lk).symm.trans e2
  cases q
  cases e3
  exact ⟨c, e4, tr _ _ e5⟩
theorem Df.bind1 {x y : Str} {st : Stmt} {f : Addr} {fd : FuncData} (D : Df K mg x st [y] f fd) (s : Shared) (v : Value)
    (hb : ∀ (kV doc pm : Value) (an : Option Addr) (dN ct : Value) (u : Value), bindArgs (PySem.W.fnOf x x (fW st) (dr st) (aj st) .none kV doc pm an dN ct) ⟨[u], []⟩ = pure [(y, u)]) : BindsTo s fd ⟨[v], []⟩ [(y, v)] := by
  obtain ⟨oc, od, kV, doc, pm, an, dN, ct, lz, rfl, lk, gd⟩ := D.fn.ex
  exact .of_eq (hb kV doc pm an dN ct v)
theorem hV {α β : Type} {F : α → β → Prop} {a : α} {r : List α} {t : List β} (h : Paired F (a :: r) t) : ∃ b t', t = b :: t' ∧ F a b ∧ Paired F r t' := by
  cases h with
  | cons x y => exact ⟨_, _, rfl, x, y⟩
theorem recs_of {q : Program} {k8 : List Str} (h : (k8.all fun y => (recsOf q).any fun r => decide (r.name = y)) = true) : ∀ y ∈ k8, ∃ r ∈ recsOf q, r.name = y := fun y hy => by
  have := List.all_eq_true.mp h y hy
  obtain ⟨r, hr, e⟩ := List.any_eq_true.mp this
  exact ⟨r, hr, of_decide_eq_true e⟩
end
noncomputable def M8 (xs : Array Nat) : Prop := xs.toList.Pairwise (· < ·)
structure Jq (w : World) (t : SetTable) : Prop where
  dum : t.dummies = #[]
  ris : M8 t.place
  led : t.led = !w.params.followText "set-order"
noncomputable def L5 (e : Int × Value) : Int := match e.2 with | .int i _ => i | _ => 0
noncomputable def L6 (P : Program) (w : World) (h : Heap) (a : Addr) (ns : List Int) : Prop :=
  ∃ o es ep t, h.get? a = some o ∧ o.ExactSet ∧ o.data = .set es ep t ∧ ElemsOf (intKind P w) es.toList ∧ (es.toList.map L5).Perm ns ∧ ns.Nodup ∧ es.size < scanBound ∧ t.fits es.size = true ∧ Jq w t
noncomputable def L7 (P : Program) (w : World) (a : Addr) (ns : List Int) : HO := .ext fun h => L6 P w h a ns
noncomputable def L8 (ns : List Int) (m : Int) : List Int := if m ∈ ns then ns else ns ++ [m]
theorem iJ {α : Type} : ∀ {l : List α} {i : Nat} (h : i < l.length), (l[i] :: l.eraseIdx i).Perm l
  | [], i, h => by simp at h
  | x :: l, 0, h => .refl _
  | x :: l, i + 1, h => by
    rw [List.eraseIdx_cons_succ, List.getElem_cons_succ]
    exact (List.Perm.swap _ _ _).trans (.cons _ (iJ (by simpa using h)))
theorem Cq : ∀ {ns : List Int} {us : List Value}, Vals (ns.map V.int) us → IntsAre us ns
  | [], _, .nil => .nil
  | n :: ns, _, .cons r t => by
    obtain ⟨k, rfl⟩ := r
    exact .cons _ _ (Cq t)
section
variable {P : Program} {w : World} {A : Around} {E : Value → Shared → Prop} {s : Shared}
theorem ng {T : String} {l : Addr} {vs : List Value} {Q : List Value → Shared → Prop} {o : Obj} {n : Nat} (ho : s.heap.get? l = some o) (hc : o.cls = .type T) (hd : o.data = .seq vs.toArray n) (hT : T = "list" ∨ T = "tuple")
    (h : ∀ h', (∀ b o, s.heap.get? b = some o → h'.get? b = some o) → Q vs { s with heap := h' }) (hsz : vs.length ≤ sizeLine) : wpAny (model P w) A (collect (.ref l)) Q E s := by
  unfold collect
  refine wpAny_bind (wpAny_runValue (codeAny_builtin F.entry_proto_collect ?_))
  rw [Around.under_plainId F.plain_proto_collect _]
  show wpAny _ A.in1 (newList [] >>= fun l' => again (.builtin "list.__iadd__" ⟨[l', .ref l], []⟩)) _ _ s
  refine wpAny_bind (wpAny_newList (wpAny_pure ⟨plainId_quiet F.plain_list_iadd _, codeAny_builtin F.entry_list_iadd ?_⟩))
  rw [Around.under_plainId F.plain_list_iadd _]
  show wpAny _ A.in1 (Builtin.List.listExtendWith (.ref s.heap.objs.size) (.ref l) (.ref s.heap.objs.size)) _ _ { s with heap := s.heap.push (seqObj "list" #[] 0) }
  unfold Builtin.List.listExtendWith
  have eQ : (s.heap.push (seqObj "list" #[] 0)).get? l = some o := Heap.get?_push_of_some _ ho
  refine wpAny_bind (wpAny_typeOf (T := T) ⟨o, eQ, hc⟩ ?_)
  rw [if_pos (by rcases hT with rfl | rfl <;> simp)]
  refine wpAny_bind (listItems_at eQ hd ?_)
  refine wpAny_bind (listItems_at (xs := #[]) (n := 0) (Heap.get?_push_size _ rfl) rfl ?_)
  rw [if_neg (by simp)]
  refine wpAny_bind (listUpdate_at (xs := #[]) (n := 0) (Heap.get?_push_size _ rfl) rfl ?_ (Nat.zero_le _) (by show (#[] ++ vs.toArray).size ≤ sizeLine + 1; simp only [Array.size_append, List.size_toArray, List.length_nil]; omega))
  refine wpAny_pure ?_
  show wpAny (model P w) A (load s.heap.objs.size >>= _) Q E _
  refine wpAny_bind (wpAny_load (get?_update_seq (Heap.get?_push_size _ rfl) _) ?_)
  show wpAny _ _ (pure ((#[] : Array Value) ++ vs.toArray).toList) Q E _
  rw [show ((#[] : Array Value) ++ vs.toArray).toList = vs by simp]
  exact wpAny_pure (h _ fun b o e => (Heap.get?_update_other _ _ (Nat.ne_of_gt (Heap.lt_size e))).trans (Heap.get?_push_of_some _ e))
end
inductive Dt where
  | au | bl (b : Bool) | int (i : Int) | str (x : Str) | lst (xs : List Dt) | tup (xs : List Dt)
inductive dB (H : Hp) : V → Dt → Prop where
  | au : dB H .au .au
  | bl (b : Bool) : dB H (.bl b) (.bl b)
  | int (i : Int) : dB H (.int i) (.int i)
  | str (x : Str) : dB H (.str x) (.str x)
  | lst {a : Addr} {xs : List V} {ds : List Dt} (e : H a = some (.lst xs)) (hl : xs.length = ds.length) (h : ∀ (i : Nat) (x : V) (d : Dt), xs[i]? = some x → ds[i]? = some d → dB H x d) : dB H (.ref a) (.lst ds)
  | tup {a : Addr} {xs : List V} {ds : List Dt} (e : H a = some (.tup xs)) (hl : xs.length = ds.length) (h : ∀ (i : Nat) (x : V) (d : Dt), xs[i]? = some x → ds[i]? = some d → dB H x d) : dB H (.ref a) (.tup ds)
mutual
noncomputable def cy : Dt → Dt → Bool
  | .au, .au => true
  | .bl a, .bl b => a == b
  | .bl a, .int b => (if a then 1 else 0) == b
  | .int a, .bl b => a == (if b then 1 else 0)
  | .int a, .int b => a == b
  | .str a, .str b => a == b
  | .lst xs, .lst ys => fv xs ys
  | .tup xs, .tup ys => fv xs ys
  | _, _ => false
noncomputable def fv : List Dt → List Dt → Bool
  | [], [] => true
  | x :: xs, y :: ys => cy x y && fv xs ys
  | _, _ => false
end
mutual
theorem ki : ∀ d : Dt, cy d d = true
  | .au => by simp [cy]
  | .bl b => by simp [cy]
  | .int i => by simp [cy]
  | .str x => by simp [cy]
  | .lst xs => by simp only [cy]; exact lK xs
  | .tup xs => by simp only [cy]; exact lK xs
theorem lK : ∀ ds : List Dt, fv ds ds = true
  | [] => by simp [fv]
  | d :: ds => by simp only [fv]; rw [ki d, lK ds]; rfl
end
theorem gp : ∀ (xs ys : List Dt), fv xs ys = ((List.range (min xs.length ys.length)).all (fun j => cy (xs.getD j .au) (ys.getD j .au)) && xs.length == ys.length)
  | [], [] => by simp [fv]
  | [], _ :: _ => by simp [fv]
  | _ :: _, [] => by simp [fv]
  | x :: xs, y :: ys => by
    rw [fv, gp xs ys]
    have e : min (x :: xs).length (y :: ys).length = min xs.length ys.length + 1 := by simp [Nat.succ_min_succ]
    rw [e, List.range_succ_eq_map, List.all_cons, List.all_map]
    have e2 : ((x :: xs).length == (y :: ys).length) = (xs.length == ys.length) := by simp
    rw [e2, Bool.and_assoc]
    rfl
theorem dB.inj {H : Hp} {v : V} {d : Dt} (h : dB H v d) : ∀ {d' : Dt}, dB H v d' → d = d' := by
  induction h with
  | au => intro d' h'; cases h'; rfl
  | bl b => intro d' h'; cases h'; rfl
  | int i => intro d' h'; cases h'; rfl
  | str x => intro d' h'; cases h'; rfl
  | lst e hl h ih =>
    intro d' h'
    cases h' with
    | lst e' Gu h' =>
      rw [e] at e'; cases e'
      congr 1
      refine List.ext_getElem? fun i => ?_
      rename_i xs ds fZ
      by_cases hi : i < xs.length
      · rw [List.getElem?_eq_getElem (by omega), List.getElem?_eq_getElem (by omega)]
        exact congrArg some (ih i _ _ (List.getElem?_eq_getElem hi) (List.getElem?_eq_getElem (by omega)) (h' i _ _ (List.getElem?_eq_getElem hi) (List.getElem?_eq_getElem (by omega))))
      · rw [List.getElem?_eq_none (by omega), List.getElem?_eq_none (by omega)]
    | tup e' Gu h' => rw [e] at e'; cases e'
  | tup e hl h ih =>
    intro d' h'
    cases h' with
    | lst e' Gu h' => rw [e] at e'; cases e'
    | tup e' Gu h' =>
      rw [e] at e'; cases e'
      congr 1
      refine List.ext_getElem? fun i => ?_
      rename_i xs ds fZ
      by_cases hi : i < xs.length
      · rw [List.getElem?_eq_getElem (by omega), List.getElem?_eq_getElem (by omega)]
        exact congrArg some (ih i _ _ (List.getElem?_eq_getElem hi) (List.getElem?_eq_getElem (by omega)) (h' i _ _ (List.getElem?_eq_getElem hi) (List.getElem?_eq_getElem (by omega))))
      · rw [List.getElem?_eq_none (by omega), List.getElem?_eq_none (by omega)]
mutual
noncomputable def il : Dt → Nat
  | .lst xs => gq xs + 1
  | .tup xs => gq xs + 1
  | _ => 0
noncomputable def gq : List Dt → Nat
  | [] => 0
  | x :: xs => max (il x) (gq xs)
end
theorem lL : ∀ {ds : List Dt} {i : Nat} {d : Dt}, ds[i]? = some d → il d ≤ gq ds
  | [], _, _, h => by simp at h
  | x :: xs, 0, d, h => by
    simp at h; subst h
    rw [gq]; exact Nat.le_max_left _ _
  | x :: xs, i + 1, d, h => by
    rw [gq]
    exact Nat.le_trans (lL (i := i) (by simpa using h)) (Nat.le_max_right _ _)
section
variable {X : Cx} {pins : List (Addr × Obj)} {σ : St} {H : Hp} {s : Shared}
theorem Inv.lists (I : Inv X pins σ H s) {a : Addr} {xs : List V} (h : H a = some (.lst xs)) : ∃ its : List Value, Vals xs its ∧ s.heap.IsList a its.toArray := by
  obtain ⟨its, rv, p, _⟩ := I.list (bH.of h)
  exact ⟨its, rv, p.isList⟩
theorem Inv.tups (I : Inv X pins σ H s) {a : Addr} {xs : List V} (h : H a = some (.tup xs)) : ∃ its : List Value, Vals xs its ∧ s.heap.IsTuple a its.toArray := by
  obtain ⟨its, rv, p, _⟩ := I.tuple (cN.of h)
  exact ⟨its, rv, p⟩
theorem sN (I : Inv X pins σ H s) {x y : V} {d : Dt} (hx : dB H x d) : ∀ {e : Dt} {u v : Value} {A : Around}, dB H y e → RelV x u → RelV y v → A.units + il d < cLine → SeqAt.EqAt A s u v (cy d e) := by
  have lists := fun {a : Addr} {xs : List V} (h : H a = some (.lst xs)) => I.lists h
  have tups := fun {a : Addr} {xs : List V} (h : H a = some (.tup xs)) => I.tups h
  induction hx generalizing y with
  | au =>
    intro e u v A hy rx ry hu
    have bG : A.units < cLine := by omega
    cases rx
    cases hy with
    | au => cases ry; exact SeqAt.EqAt.same _
    | bl b => cases ry; exact SeqAt.EqAt.none_bool _
    | int i => obtain ⟨t, rfl⟩ := ry; exact SeqAt.EqAt.none_int _ _
    | str z => obtain ⟨t, rfl⟩ := ry; exact SeqAt.EqAt.none_str _ _
    | lst e2 _ _ => cases ry; obtain ⟨_, _, p⟩ := lists e2; exact SeqAt.EqAt.none_list p bG
    | tup e2 _ _ => cases ry; obtain ⟨_, _, p⟩ := tups e2; exact SeqAt.EqAt.none_tuple p bG
  | bl a =>
    intro e u v A hy rx ry hu
    have bG : A.units < cLine := by omega
    cases rx
    cases hy with
    | au => cases ry; exact SeqAt.EqAt.bool_none _
    | bl b => cases ry; exact SeqAt.EqAt.bool_bool _ _
    | int i => obtain ⟨t, rfl⟩ := ry; exact SeqAt.EqAt.bool_int _ _ _
    | str z => obtain ⟨t, rfl⟩ := ry; exact SeqAt.EqAt.bool_str _ _ _
    | lst e2 _ _ => cases ry; obtain ⟨_, _, p⟩ := lists e2; exact SeqAt.EqAt.bool_list _ p bG
    | tup e2 _ _ => cases ry; obtain ⟨_, _, p⟩ := tups e2; exact SeqAt.EqAt.bool_tuple _ p bG
  | int a =>
    intro e u v A hy rx ry hu
    have bG : A.units < cLine := by omega
    obtain ⟨ta, rfl⟩ := rx
    cases hy with
    | au => cases ry; exact SeqAt.EqAt.int_none _ _
    | bl b => cases ry; exact SeqAt.EqAt.int_bool _ _ _
    | int i => obtain ⟨t, rfl⟩ := ry; exact SeqAt.EqAt.int_int _ _ _ _
    | str z => obtain ⟨t, rfl⟩ := ry; exact SeqAt.EqAt.int_str _ _ _ _
    | lst e2 _ _ => cases ry; obtain ⟨_, _, p⟩ := lists e2; exact SeqAt.EqAt.int_list _ _ p bG
    | tup e2 _ _ => cases ry; obtain ⟨_, _, p⟩ := tups e2; exact SeqAt.EqAt.int_tuple _ _ p bG
  | str a =>
    intro e u v A hy rx ry hu
    have bG : A.units < cLine := by omega
    obtain ⟨ta, rfl⟩ := rx
    cases hy with
    | au => cases ry; exact SeqAt.EqAt.str_none _ _
    | bl b => cases ry; exact SeqAt.EqAt.str_bool _ _ _
    | int i => obtain ⟨t, rfl⟩ := ry; exact SeqAt.EqAt.str_int _ _ _ _
    | str z => obtain ⟨t, rfl⟩ := ry; exact SeqAt.EqAt.str_str _ _ _ _
    | lst e2 _ _ => cases ry; obtain ⟨_, _, p⟩ := lists e2; exact SeqAt.EqAt.str_list _ _ p bG
    | tup e2 _ _ => cases ry; obtain ⟨_, _, p⟩ := tups e2; exact SeqAt.EqAt.str_tuple _ _ p bG
  | lst e1 nh h1 ih =>
    rename_i a xs ds
    intro e u v A hy rx ry hu
    have bG : A.units < cLine := by omega
    have yn : A.units + gq ds + 1 < cLine := by rw [il] at hu; omega
    cases rx
    obtain ⟨its, rv, p⟩ := lists e1
    cases hy with
    | au => cases ry; exact SeqAt.EqAt.list_none p bG
    | bl b => cases ry; exact SeqAt.EqAt.list_bool _ p bG
    | int i => obtain ⟨t, rfl⟩ := ry; exact SeqAt.EqAt.list_int _ _ p bG
    | str z => obtain ⟨t, rfl⟩ := ry; exact SeqAt.EqAt.list_str _ _ p bG
    | lst e2 ju h2 =>
      rename_i b ys es
      cases ry
      by_cases dj : a = b
      · subst dj
        have := (dB.lst e1 nh h1).inj (dB.lst e2 ju h2)
        cases this
        rw [ki]
        exact SeqAt.EqAt.same _
      · obtain ⟨cQ, iE, p2⟩ := lists e2
        have l1 := rv.length
        have l2 := iE.length
        have at_ : ∀ j (g1 : j < its.toArray.size) (g2 : j < cQ.toArray.size), SeqAt.EqAt A.in1 s its.toArray[j] cQ.toArray[j] (cy (ds.getD j .au) (es.getD j .au)) := fun j g1 g2 => by
          have lM : j < xs.length := by rw [l1]; simpa using g1
          have lN : j < ys.length := by rw [l2]; simpa using g2
          have r1 := ed rv g1
          have r2 := ed iE g2
          rw [List.getD_eq_getElem?_getD, List.getElem?_eq_getElem lM] at r1
          rw [List.getD_eq_getElem?_getD, List.getElem?_eq_getElem lN] at r2
          have d1 : ds[j]? = some ds[j] := List.getElem?_eq_getElem (by omega)
          have d2 : es[j]? = some es[j] := List.getElem?_eq_getElem (by omega)
          rw [List.getD_eq_getElem?_getD, List.getD_eq_getElem?_getD, d1, d2]
          have := lL d1
          exact ih j _ _ (List.getElem?_eq_getElem lM) d1 (h2 j _ _ (List.getElem?_eq_getElem lN) d2) r1 r2 (by show A.units + 1 + _ < cLine; omega)
        refine SeqAt.EqAt.of_refs dj ?_
        rw [cy, gp]
        by_cases hsz : ds.length = es.length
        · have q := SeqAt.RcAt.lists p p2 (by simp only [List.size_toArray]; omega) bG at_
          have z : (ds.length == es.length) = true := by simpa using hsz
          rw [z, Bool.and_true, ← hsz, Nat.min_self]
          rw [List.size_toArray, ← l1, nh] at q
          exact q
        · have z : (ds.length == es.length) = false := by simpa using hsz
          rw [z, Bool.and_false]
          exact SeqAt.RcAt.lists_lengths p p2 (by simp only [List.size_toArray]; simpa [bne_iff_ne] using (show its.length ≠ cQ.length by omega)) bG
    | tup e2 ju h2 => cases ry; obtain ⟨_, _, p2⟩ := tups e2; exact SeqAt.EqAt.list_tuple p p2 bG
  | tup e1 nh h1 ih =>
    rename_i a xs ds
    intro e u v A hy rx ry hu
    have bG : A.units < cLine := by omega
    have yn : A.units + gq ds + 1 < cLine := by rw [il] at hu; omega
    cases rx
    obtain ⟨its, rv, p⟩ := tups e1
    cases hy with
    | au => cases ry; exact SeqAt.EqAt.tuple_none p bG
    | bl b => cases ry; exact SeqAt.EqAt.tuple_bool _ p bG
    | int i => obtain ⟨t, rfl⟩ := ry; exact SeqAt.EqAt.tuple_int _ _ p bG
    | str z => obtain ⟨t, rfl⟩ := ry; exact SeqAt.EqAt.tuple_str _ _ p bG
    | lst e2 ju h2 => cases ry; obtain ⟨_, _, p2⟩ := lists e2; exact SeqAt.EqAt.tuple_list p p2 bG
    | tup e2 ju h2 =>
      rename_i b ys es
      cases ry
      by_cases dj : a = b
      · subst dj
        have := (dB.tup e1 nh h1).inj (dB.tup e2 ju h2)
        cases this
        rw [ki]
        exact SeqAt.EqAt.same _
      · obtain ⟨cQ, iE, p2⟩ := tups e2
        have l1 := rv.length
        have l2 := iE.length
        have at_ : ∀ j (g1 : j < its.toArray.size) (g2 : j < cQ.toArray.size), SeqAt.EqAt A.in1 s its.toArray[j] cQ.toArray[j] (cy (ds.getD j .au) (es.getD j .au)) := fun j g1 g2 => by
          have lM : j < xs.length := by rw [l1]; simpa using g1
          have lN : j < ys.length := by rw [l2]; simpa using g2
          have r1 := ed rv g1
          have r2 := ed iE g2
          rw [List.getD_eq_getElem?_getD, List.getElem?_eq_getElem lM] at r1
          rw [List.getD_eq_getElem?_getD, List.getElem?_eq_getElem lN] at r2
          have d1 : ds[j]? = some ds[j] := List.getElem?_eq_getElem (by omega)
          have d2 : es[j]? = some es[j] := List.getElem?_eq_getElem (by omega)
          rw [List.getD_eq_getElem?_getD, List.getD_eq_getElem?_getD, d1, d2]
          have := lL d1
          exact ih j _ _ (List.getElem?_eq_getElem lM) d1 (h2 j _ _ (List.getElem?_eq_getElem lN) d2) r1 r2 (by show A.units + 1 + _ < cLine; omega)
        refine SeqAt.EqAt.of_refs dj ?_
        rw [cy, gp]
        have q := SeqAt.RcAt.tuples p p2 bG at_
        rw [List.size_toArray, List.size_toArray, ← l1, ← l2, nh, ju] at q
        exact q
end
section
variable {X : Cx} {pins : List (Addr × Obj)} {σ : St} {H : Hp} {s : Shared}
theorem Gv (I : Inv X pins σ H s) {x y : V} {d e : Dt} {u v : Value} {A : Around} (hx : dB H x d) (hy : dB H y e) (rx : RelV x u) (ry : RelV y v) (hu : A.units + il d < cLine) : SeqAt.RcAt A s u v (cy d e) := by
  have bG : A.units < cLine := by omega
  have lists := fun {a : Addr} {xs : List V} (h : H a = some (.lst xs)) => I.lists h
  have tups := fun {a : Addr} {xs : List V} (h : H a = some (.tup xs)) => I.tups h
  cases hx with
  | au =>
    cases rx
    cases hy with
    | au => cases ry; exact SeqAt.RcAt.none_none
    | bl b => cases ry; exact SeqAt.RcAt.none_bool _
    | int b => obtain ⟨t, rfl⟩ := ry; exact SeqAt.RcAt.none_int _ _
    | str b => obtain ⟨t, rfl⟩ := ry; exact SeqAt.RcAt.none_str _ _
    | lst e2 _ _ => cases ry; obtain ⟨_, _, p⟩ := lists e2; exact SeqAt.RcAt.none_list p bG
    | tup e2 _ _ => cases ry; obtain ⟨_, _, p⟩ := tups e2; exact SeqAt.RcAt.none_tuple p bG
  | bl a =>
    cases rx
    cases hy with
    | au => cases ry; exact SeqAt.RcAt.bool_none _
    | bl b => cases ry; exact SeqAt.RcAt.bool_bool _ _
    | int b => obtain ⟨t, rfl⟩ := ry; exact SeqAt.RcAt.bool_int _ _ _
    | str b => obtain ⟨t, rfl⟩ := ry; exact SeqAt.RcAt.bool_str _ _ _
    | lst e2 _ _ => cases ry; obtain ⟨_, _, p⟩ := lists e2; exact SeqAt.RcAt.bool_list _ p bG
    | tup e2 _ _ => cases ry; obtain ⟨_, _, p⟩ := tups e2; exact SeqAt.RcAt.bool_tuple _ p bG
  | int a =>
    obtain ⟨ta, rfl⟩ := rx
    cases hy with
    | au => cases ry; exact SeqAt.RcAt.int_none _ _
    | bl b => cases ry; exact SeqAt.RcAt.int_bool _ _ _
    | int b => obtain ⟨t, rfl⟩ := ry; exact SeqAt.RcAt.int_int _ _ _ _
    | str b => obtain ⟨t, rfl⟩ := ry; exact SeqAt.RcAt.int_str _ _ _ _
    | lst e2 _ _ => cases ry; obtain ⟨_, _, p⟩ := lists e2; exact SeqAt.RcAt.int_list _ _ p bG
    | tup e2 _ _ => cases ry; obtain ⟨_, _, p⟩ := tups e2; exact SeqAt.RcAt.int_tuple _ _ p bG
  | str a =>
    obtain ⟨ta, rfl⟩ := rx
    cases hy with
    | au => cases ry; exact SeqAt.RcAt.str_none _ _
    | bl b => cases ry; exact SeqAt.RcAt.str_bool _ _ _
    | int b => obtain ⟨t, rfl⟩ := ry; exact SeqAt.RcAt.str_int _ _ _ _
    | str b => obtain ⟨t, rfl⟩ := ry; exact SeqAt.RcAt.str_str _ _ _ _
    | lst e2 _ _ => cases ry; obtain ⟨_, _, p⟩ := lists e2; exact SeqAt.RcAt.str_list _ _ p bG
    | tup e2 _ _ => cases ry; obtain ⟨_, _, p⟩ := tups e2; exact SeqAt.RcAt.str_tuple _ _ p bG
  | lst e1 nh h1 =>
    rename_i a xs ds
    have yn : A.units + gq ds + 1 < cLine := by rw [il] at hu; omega
    cases rx
    obtain ⟨its, rv, p⟩ := lists e1
    cases hy with
    | au => cases ry; exact SeqAt.RcAt.list_none p bG
    | bl b => cases ry; exact SeqAt.RcAt.list_bool _ p bG
    | int b => obtain ⟨t, rfl⟩ := ry; exact SeqAt.RcAt.list_int _ _ p bG
    | str b => obtain ⟨t, rfl⟩ := ry; exact SeqAt.RcAt.list_str _ _ p bG
    | lst e2 ju h2 =>
      rename_i b ys es
      cases ry
      obtain ⟨cQ, iE, p2⟩ := lists e2
      have l1 := rv.length
      have l2 := iE.length
      have at_ : ∀ j (g1 : j < its.toArray.size) (g2 : j < cQ.toArray.size), SeqAt.EqAt A.in1 s its.toArray[j] cQ.toArray[j] (cy (ds.getD j .au) (es.getD j .au)) := fun j g1 g2 => by
        have lM : j < xs.length := by rw [l1]; simpa using g1
        have lN : j < ys.length := by rw [l2]; simpa using g2
        have r1 := ed rv g1
        have r2 := ed iE g2
        rw [List.getD_eq_getElem?_getD, List.getElem?_eq_getElem lM] at r1
        rw [List.getD_eq_getElem?_getD, List.getElem?_eq_getElem lN] at r2
        have d1 : ds[j]? = some ds[j] := List.getElem?_eq_getElem (by omega)
        have d2 : es[j]? = some es[j] := List.getElem?_eq_getElem (by omega)
        rw [List.getD_eq_getElem?_getD, List.getD_eq_getElem?_getD, d1, d2]
        have := lL d1
        exact sN I (h1 j _ _ (List.getElem?_eq_getElem lM) d1) (h2 j _ _ (List.getElem?_eq_getElem lN) d2) r1 r2 (by show A.units + 1 + _ < cLine; omega)
      rw [cy, gp]
      by_cases hsz : ds.length = es.length
      · have q := SeqAt.RcAt.lists p p2 (by simp only [List.size_toArray]; omega) bG at_
        have z : (ds.length == es.length) = true := by simpa using hsz
        rw [z, Bool.and_true, ← hsz, Nat.min_self]
        rw [List.size_toArray, ← l1, nh] at q
        exact q
      · have z : (ds.length == es.length) = false := by simpa using hsz
        rw [z, Bool.and_false]
        exact SeqAt.RcAt.lists_lengths p p2 (by simp only [List.size_toArray]; simpa [bne_iff_ne] using (show its.length ≠ cQ.length by omega)) bG
    | tup e2 ju h2 => cases ry; obtain ⟨_, _, p2⟩ := tups e2; exact SeqAt.RcAt.list_tuple p p2 bG
  | tup e1 nh h1 =>
    rename_i a xs ds
    have yn : A.units + gq ds + 1 < cLine := by rw [il] at hu; omega
    cases rx
    obtain ⟨its, rv, p⟩ := tups e1
    cases hy with
    | au => cases ry; exact SeqAt.RcAt.tuple_none p bG
    | bl b => cases ry; exact SeqAt.RcAt.tuple_bool _ p bG
    | int b => obtain ⟨t, rfl⟩ := ry; exact SeqAt.RcAt.tuple_int _ _ p bG
    | str b => obtain ⟨t, rfl⟩ := ry; exact SeqAt.RcAt.tuple_str _ _ p bG
    | lst e2 ju h2 => cases ry; obtain ⟨_, _, p2⟩ := lists e2; exact SeqAt.RcAt.tuple_list p p2 bG
    | tup e2 ju h2 =>
      rename_i b ys es
      cases ry
      obtain ⟨cQ, iE, p2⟩ := tups e2
      have l1 := rv.length
      have l2 := iE.length
      have at_ : ∀ j (g1 : j < its.toArray.size) (g2 : j < cQ.toArray.size), SeqAt.EqAt A.in1 s its.toArray[j] cQ.toArray[j] (cy (ds.getD j .au) (es.getD j .au)) := fun j g1 g2 => by
        have lM : j < xs.length := by rw [l1]; simpa using g1
        have lN : j < ys.length := by rw [l2]; simpa using g2
        have r1 := ed rv g1
        have r2 := ed iE g2
        rw [List.getD_eq_getElem?_getD, List.getElem?_eq_getElem lM] at r1
        rw [List.getD_eq_getElem?_getD, List.getElem?_eq_getElem lN] at r2
        have d1 : ds[j]? = some ds[j] := List.getElem?_eq_getElem (by omega)
        have d2 : es[j]? = some es[j] := List.getElem?_eq_getElem (by omega)
        rw [List.getD_eq_getElem?_getD, List.getD_eq_getElem?_getD, d1, d2]
        have := lL d1
        exact sN I (h1 j _ _ (List.getElem?_eq_getElem lM) d1) (h2 j _ _ (List.getElem?_eq_getElem lN) d2) r1 r2 (by show A.units + 1 + _ < cLine; omega)
      rw [cy, gp]
      have q := SeqAt.RcAt.tuples p p2 bG at_
      rw [List.size_toArray, List.size_toArray, ← l1, ← l2, nh, ju] at q
      exact q
end
section
variable {X : Cx}
noncomputable def Gw (neg : Bool) : R2 := fun x y H Q => ∃ d e, dB H x d ∧ dB H y e ∧ il d ≤ 60 ∧ Q (.bl (if neg then !cy d e else cy d e)) H
theorem Gx (hu : X.A.units + 64 < cLine) : OpR X (compareOp .Eq) (Gw false) := by
  intro pins s σ H x y v u Q I rx ry h
  obtain ⟨d, e, hx, hy, hd, q⟩ := h
  exact Gv I hx hy rx ry (by omega) X.prog X.w X.xe _ ⟨.bl _, H, I, rfl, q⟩
end
theorem yo : bootBuiltins "sorted" = some (.builtin "sorted") := by decide +kernel
theorem sO : bootBuiltins "all" = some (.builtin "all") := PyProof.Rows.boot_all
section
variable {X : Cx}
noncomputable def Cr (K : PySem.W.Frag) : List V → Hp → VK → Prop := fun xs H Q => ∃ (p : Addr) (bs : List Bool), xs = [.ref p] ∧ bH K H p (bs.map V.bl) ∧ Q (.bl (bs.all id)) H
theorem yp (hc : X.calm = true) : cP X (.builtin "all") (Cr X.K) := by
  intro pins s σ H xs us Q I r h
  obtain ⟨p, bs, rfl, hq, q⟩ := h
  obtain ⟨u, rfl, rx⟩ := vals1 r
  cases rx
  have hh := I.ok.hd hc
  obtain ⟨its, rv, pl, hz⟩ := I.list hq
  have hl : its.toArray.size = bs.length := by rw [List.size_toArray, ← rv.length, List.length_map]
  have qM : s.heap.IsList p its.toArray := pl.isList
  have bu : p < s.heap.objs.size := let ⟨o, ho, _⟩ := qM; Heap.lt_size ho
  have at_ : ∀ (i : Nat) (v : Value), its.toArray[i]? = some v → v = .bool (bs.getD i false) := fun i v hv => by
    have h' : its[i]? = some v := by simpa using hv
    have hi : i < its.length := (List.getElem?_eq_some_iff.mp h').1
    have c9 : i < bs.length := by rw [List.size_toArray] at hl; omega
    obtain ⟨u, e, q2⟩ := rv.get (i := i) (x := V.bl bs[i]) (by rw [List.getElem?_map, List.getElem?_eq_getElem c9]; rfl)
    rw [h'] at e; cases e
    rw [List.getD_eq_getElem?_getD, List.getElem?_eq_getElem c9]
    exact q2
  refine call_function_tree F.kind_all F.plain_all F.entry_all (F.args_all1 _) ?_
  unfold Builtin.«all»
  refine wpAny_bind (m := oneArg "all" _) (wpAny_pure ?_)
  refine wpAny_bind (wpAny_pyIter_list qM ?_)
  have W := Walks.list (prog := X.prog) (w := X.w) (A := X.A.in1) (by simp [hh]) s.heap.objs.size p (Nat.ne_of_lt bu) its.toArray
  refine wpAny_pure ⟨plainId_quiet F.plain_all_loop _, codeAny_all_loop W (fun i => bs.getD i false) ?_ its.toArray.size 0 _ rfl (Nat.zero_le _) ⟨⟨_, Heap.get?_push_size _ rfl, rfl, rfl⟩, qM.push _⟩ fun h' tk hk => ?_⟩
  · intro i v s' Q' E' hv Gy
    have := at_ i v hv
    subst this
    exact wpAny_truthy_bool Gy
  · have e : ((List.range its.toArray.size).drop 0).all (fun i => bs.getD i false) = bs.all id := by
      rw [List.drop_zero, hl]
      refine Bool.eq_iff_iff.mpr ?_
      rw [List.all_eq_true, List.all_eq_true]
      constructor
      · intro hx b hb
        obtain ⟨i, hi⟩ := List.getElem?_of_mem hb
        have jY := (List.getElem?_eq_some_iff.mp hi).1
        have := hx i (by rw [List.mem_range]; exact jY)
        rw [List.getD_eq_getElem?_getD, hi] at this
        exact this
      · intro hx i hi
        rw [List.mem_range] at hi
        rw [List.getD_eq_getElem?_getD, List.getElem?_eq_getElem hi]
        exact hx _ (List.getElem_mem hi)
    have I2 : Inv X pins σ H { s with heap := h', toks := tk } := I.kept fun b o eb => hk b o (by simp only [List.mem_singleton]; exact Nat.ne_of_lt (Heap.lt_size eb)) (Heap.get?_push_of_some _ eb)
    refine ⟨.bl (bs.all id), H, I2, ?_, q⟩
    show Value.bool _ = Value.bool _
    rw [e]
theorem wj {K : PySem.W.Frag} (h : X.K = K) (hc : X.calm = true) : cP X (.builtin "all") (Cr K) := h ▸ yp hc
end
theorem ObjOk.there {P : Program} {w : World} {H : Hp} {h : Heap} {a : Addr} {o : HO} (x : ObjOk P w H h a o) : ∃ u, h.get? a = some u := by
  cases o with
  | lst xs => obtain ⟨_, _, _, _, e⟩ := x; exact ⟨_, e⟩
  | tup xs => obtain ⟨_, _, _, ob, e, _⟩ := x; exact ⟨_, e⟩
  | dK aq => obtain ⟨_, _, _, _, o, _, _, e, _⟩ := x; exact ⟨_, e⟩
  | dT aq => obtain ⟨_, _, _, _, o, _, _, e, _⟩ := x; exact ⟨_, e⟩
  | set S n => obtain ⟨o, _, _, _, e, _⟩ := x; exact ⟨_, e⟩
  | ins C dx fs => obtain ⟨_, _, _, e, _⟩ := x; exact ⟨_, e⟩
  | own y => obtain ⟨_, e⟩ := x; exact ⟨_, e⟩
  | xd fs => obtain ⟨_, ⟨_, _, _, e, _⟩, _⟩ := x; exact ⟨_, e⟩
  | B4 lo hi => obtain ⟨_, _, _, e⟩ := x; exact ⟨_, e⟩
  | fm ob u => obtain ⟨e, _⟩ := x; exact ⟨_, e⟩
  | cE ps => exact ⟨_, x⟩
  | lam ps => exact ⟨_, x⟩
  | met f y => exact ⟨_, x⟩
  | ext φ => obtain ⟨_, ⟨_, e⟩, _⟩ := x; exact ⟨_, e⟩
noncomputable def fy (P : Program) (w : World) : js := fun outer H s E e s' => ∃ (a C t : Addr) (B : Heap) (H' : Hp), e = .ref a ∧ s'.os = s.os ∧ Gn s.gens.size s'.gens ∧ Heap.FlyingW B outer a (.ref C) (.ref t) s'.heap ∧
  (∀ b o, s.heap.get? b = some o → b ∉ fo outer → ∃ o', B.get? b = some o') ∧ (∀ b u, H' b = some u → ∃ o', B.get? b = some o') ∧ Un (fo outer) [] H H' s.heap s'.heap ∧ cw P w H' s'.heap ∧ E (.ref C) none H'
section
variable {X : Cx} {pins : List (Addr × Obj)} {σ : St} {H H1 : Hp} {s s1 : Shared} {B h' : Heap}
theorem Inv.lO (I : Inv X pins σ H s) {b : Addr} (h1 : b ≠ X.env.locals) (h2 : b ∉ X.fs) : b ∉ fo X.stack := fun z => by
  rcases List.mem_cons.mp (I.fw b z) with q | q
  · exact h1 q
  · exact h2 q
theorem Inv.rP (I : Inv X pins σ H s) {b : Addr} {o : Obj} (e : X.s₀.heap.get? b = some o) : b ≠ X.env.locals := fun z => by
  have l := Heap.lt_size e
  have := I.ok.above
  rw [← z] at this
  exact absurd l (Nat.not_lt.mpr this)
theorem Inv.Kw (I1 : Inv X pins σ H1 s1) (I : Inv X pins σ H s) (c1 : ∀ b o, s1.heap.get? b = some o → b ∉ fo X.stack → ∃ o', B.get? b = some o') (c2 : ∀ b u, H b = some u → ∃ o', B.get? b = some o')
    (k : B.StaysIn s.heap) (k' : B.StaysIn h') (up : s.heap.UpToSlots h') : Inv X pins σ H { s with heap := h' } := by
  have same : ∀ b o', (∃ o2, B.get? b = some o2) → s.heap.get? b = some o' → h'.get? b = some o' := fun b o' ⟨o2, e⟩ q => by
    have z := k b o2 e
    rw [q] at z
    cases z
    exact k' b _ e
  refine ⟨I.ok, I.os, I.bare, ⟨fun b o q n hb hx => ?_, fun b o q n hb hx => ?_, I.base.free, fun b o q hx => ?_, I.base.tups, I.base.frzs, I.base.tbls⟩, ?_, fun x c e => ?_, I.free, I.freeC, fun p hp => ?_, fun a o e => ?_, I.len⟩
  · exact same b o (c1 b o (I1.base.keep b o q n hb hx) (I.lO (I.rP q) hb)) (I.base.keep b o q n hb hx)
  · obtain ⟨sl, e⟩ := I.base.slot b o q n hb hx
    obtain ⟨_, o2, e2, nf⟩ := I.funs.mem hb
    rw [e] at e2
    cases e2
    obtain ⟨M9, e4⟩ := up b { o with slots := sl } e nf
    exact ⟨M9, e4⟩
  · obtain ⟨o', e⟩ := I.base.there b o q hx
    by_cases hb : b ∈ X.fs
    · obtain ⟨_, o2, e2, nf⟩ := I.funs.mem hb
      obtain ⟨sl, e3⟩ := up b _ e2 nf
      exact ⟨_, e3⟩
    · obtain ⟨o1, q1⟩ := I1.base.there b o q hx
      exact ⟨o', same b o' (c1 b o1 q1 (I.lO (I.rP q) hb)) e⟩
  · obtain ⟨m, hn, hl⟩ := I.loc
    refine ⟨m, up.ns hn, fun i x v a b c => ?_⟩
    obtain ⟨u, r, l⟩ := hl i x v a b c
    refine ⟨u, r, ?_⟩
    rcases l with l | ⟨kd, c, ec, o, ho, hd⟩
    · exact .inl l
    · obtain ⟨sl, e⟩ := up c o ho fun vs z => by rw [hd] at z; cases z
      exact .inr ⟨kd, c, ec, _, e, hd⟩
  · obtain ⟨v, o, ho, hd⟩ := I.cell x c e
    obtain ⟨sl, e⟩ := up c o ho fun vs z => by rw [hd] at z; cases z
    exact ⟨v, _, e, hd⟩
  · obtain ⟨p1, p2, p3, p4, p5⟩ := I.pin p hp
    exact ⟨same p.1 p.2 (c1 p.1 p.2 (I1.pin p hp).1 (I.lO p3 p4)) p1, p2, p3, p4, p5⟩
  · refine (I.hok a o e).kc (fun b u hb q => ?_) (fun _ q => q) fun _ _ q => q
    rcases hb with z | z
    · exact same b u (c2 b o (by rw [z]; exact e)) q
    · exact same b u (c2 b _ z) q
end
section
variable {P : Program} {w : World} {K : PySem.W.Frag} {mg : Str → Option Value} {base : Heap} {N : List Str} {qual : Str} {scope : Scope} {f : Addr} {cd : Value} {A : Around} {outer : List Env} {s0 : Shared} {H0 : Hp} {E : XK}
theorem Ct : Passes (fy P w) (fM (fy P w) P w K mg base N qual scope f cd A outer s0 H0 E) E := by
  intro pins σ H s e s' I h
  obtain ⟨a, C, t, B, H', rfl, os, gn, fl, c1, c2, un, hok, q⟩ := h
  have I' := I.oh (ch := []) os un hok gn (fun b z => absurd z (by simp))
  refine wpAny_leaves_onW (cls := .ref C) (a0 := .ref t) I.ok.frames rfl fl fun h' Kx up => ?_
  have I2 := I.Kw I' c1 c2 fl.1 Kx.1 up
  refine ⟨a, C, t, B, H', rfl, I2.os, I2.bare, Kx, fun b o e n => ?_, c2, I2.base, I2.hok, q⟩
  obtain ⟨o1, e1⟩ := I.base.there b o e (fun z => absurd (show b ∈ ([] : List Addr) from z) (by simp))
  exact c1 b o1 e1 (I.lO (I.rP e) n)
noncomputable def Raises (X : Cx) (E : XK) : Prop := ∀ (pins : List (Addr × Obj)) (σ : St) (H : Hp) (s : Shared) (C : Addr) (h' : Heap) (a : Addr) (vs : List Value), Inv X pins σ H s → Heap.MadeExcOf s.heap h' a (.ref C) vs → E (.ref C) none H → X.xe (.ref a) { s with heap := h' }
theorem GA : Raises (fM (fy P w) P w K mg base N qual scope f cd A outer s0 H0 E) E := by
  intro pins σ H s C h' a vs I hx q
  have c1 : ∀ b o, s.heap.get? b = some o → b ∉ fo (fM (fy P w) P w K mg base N qual scope f cd A outer s0 H0 E).stack → ∃ o', (PySem.W.hideAll s.heap (fo (fM (fy P w) P w K mg base N qual scope f cd A outer s0 H0 E).stack)).get? b = some o' :=
    fun b o e n => ⟨o, PySem.W.hideAll_get _ e n⟩
  have c2 : ∀ b u, H b = some u → ∃ o', (PySem.W.hideAll s.heap (fo (fM (fy P w) P w K mg base N qual scope f cd A outer s0 H0 E).stack)).get? b = some o' := fun b u hu => by
    obtain ⟨o, e⟩ := (I.hok b u hu).there
    exact c1 b o e fun z => by rw [I.mG b z] at hu; cases hu
  have st : (PySem.W.hideAll s.heap (fo (fM (fy P w) P w K mg base N qual scope f cd A outer s0 H0 E).stack)).StaysIn s.heap := fun b o e => PySem.W.of_hideAll _ e
  refine wpAny_leaves_madeW (cls := .ref C) I.ok.frames rfl st (PySem.W.funFrames_hide I.stack fun env he b hb => List.mem_filterMap.mpr ⟨env, he, hb⟩) hx fun OT t fl _ _ up => ?_
  have I2 := I.Kw I c1 c2 st fl.1 ((Heap.UpToSlots.of_keeps hx.keeps).trans up)
  refine ⟨a, C, t, _, H, rfl, I2.os, I2.bare, fl, fun b o e n => ?_, c2, I2.base, I2.hok, q⟩
  obtain ⟨o1, e1⟩ := I.base.there b o e (fun z => absurd (show b ∈ ([] : List Addr) from z) (by simp))
  exact c1 b o1 e1 (I.lO (I.rP e) n)
end
theorem DK {K : PySem.W.Frag} {h : Heap} {C : Addr} {qN : List Value} {newId : String} (X : K.In h) (q : PySem.W.excIn K C qN newId = true) :
    ∃ bm Nn nm qn bs hd sn sub ab col dd k0 k1 k2 k3 k5 mN, h.get? C = some (excClassObj nm qn C Nn bs bm hd sn sub ab col dd k0 k1 k2 k3 k5 newId) ∧ h.Ns Nn mN ∧ mN "__init__" = none ∧ OwnTail h qN bm := by
  unfold PySem.W.excIn at q
  split at q
  case h_2 => cases q
  case h_1 dd cd sl ho =>
    split at q
    case h_2 => cases q
    case h_1 C' bm k0 k1 k2 k3 n k5 hm hs =>
      rw [Bool.and_eq_true, Bool.and_eq_true, Bool.and_eq_true, Bool.and_eq_true, Bool.and_eq_true] at q
      obtain ⟨⟨⟨⟨⟨q1, q2⟩, q3⟩, q4⟩, q5⟩, q6⟩ := q
      have e1 : C' = C := beq_iff_eq.mp q1
      have e2 : n = newId := beq_iff_eq.mp q2
      have e3 : cd.hasDel = false := by simpa using q3
      subst e1 e2
      obtain ⟨nm, bs, mro, ns, qn, hd, sn, sub, ab, col, del⟩ := cd
      dsimp only at hm e3 q5 q6
      subst hm e3
      have es : sl = #[k0, k1, k2, k3, some (.builtin n), k5] := by
        cases sl with
        | mk l => exact congrArg Array.mk hs
      subst es
      exact ⟨bm, ns, nm, qn, bs, hd, sn, sub, ab, col, dd, k0, k1, k2, k3, k5, _, X _ _ ho, Heap.Ns.of_isNs (PySem.W.isNs_of_in X q5), PySem.W.nsMap_none_of_in X q5 (beq_iff_eq.mp q6), PySem.W.tail_of_in X q4⟩
section
variable {X : Cx} {x : Str} {C : Addr} {jQ : Expr} {rest : List Expr} {t : TA} {qN : List Value} {B newId sP : String} {E : XK} {np aO pos : Pos}
noncomputable def GB (C : Addr) (E : XK) (t : TA) : TS := fun _ σ H => t σ H fun vs H1 => vs.length ≤ sizeLine ∧ E (.ref C) none H1
theorem AJ (O : PySem.W.excIn X.K C qN newId = true) (FB : ExcBaseFacts B newId sP qN) (hc : X.calm = true) (hR : Raises X E) (hg : Gl X x) (hm : X.mg x = some (.ref C)) (ha : PA X (jQ :: rest) t)
    (iX : (x == ("__debug__" : Str)) = false := by decide) (he : starEach (jQ :: rest) X.env = (false, eval jQ X.env) :: starEach rest X.env := by rfl) (fV : (backTo aO (starEach rest X.env)).any (·.1) = false := by rfl) :
    PS X (.Raise (some (.Call (.Name x np) (jQ :: rest) [] aO)) none pos) (GB C E t) := by
  refine ⟨fun pins s σ H D I h => ?_⟩
  obtain ⟨bm, Nn, nm, qn, bs, hd, sn, sub, ab, col, dd, k0, k1, k2, k3, k5, mN, hC, hN, Nb, T⟩ := DK I.ok.mod.kin O
  have hp : (backTo aO (starEach (jQ :: rest) X.env)).any (·.1) = false := by
    rw [he]
    exact fV
  have jx := ha aO pins s σ H _ I h
  rw [he] at jx
  refine wpAny_Raise_call_subT (C := C) (nm := nm) (q := qn) (N := Nn) (bs := bs) (bm := bm) (hdct := hd) (sn := sn) (sub := sub) (ab := ab) (col := col) (dd := dd) (k0 := k0) (k1 := k1) (k2 := k2) (k3 := k3) (k5 := k5) FB (mN := mN)
    (T.hasType FB.hasBase) (I.ok.hd hc) hp Nb (pK I hg hm ⟨rfl, ?_⟩ iX)
  rw [he]
  refine Calls.evalArgs_plain (thn jx fun us s2 ⟨vs, H2, I2, r, l, q⟩ => ?_)
  exact ⟨rfl, by rw [← r.length]; exact l, I2.bk _ _ hC, hN.keeps I2.bk, T.keeps I2.bk, fun h' a hx => hR pins σ H2 s2 C h' a us I2 hx q⟩
end
end L2
namespace L2
open PySem PySem.Spec PyProof.Rows PySem.W Builtin Builtin.ObjectAttr Builtin.Getset_descriptor
noncomputable def ExcAt (C a : Addr) (h : Heap) : Prop := ∃ o vs, h.get? a = some o ∧ o.cls = .ref C ∧ o.data = .fields vs
noncomputable def L9 (C a : Addr) : HO := .ext (ExcAt C a)
structure GC (K : Frag) (C : Addr) : Prop where
  cls : (clsIn K C).isSome = true
  ga : findIn K (.ref C) "__getattribute__" = some (some (.builtin "BaseException.__getattribute__"))
  gt : findIn K (.ref C) "__getattr__" = some none
  cl : findIn K (.ref C) "__class__" = some (some (.builtin "object.__class__"))
  gg : specialIn K (.builtin "object.__class__") "__get__" = some (some (.builtin "getset_descriptor.__get__"))
  tk : takesIn K (.builtin "object.__class__") = some true
  ob : mroIn K C (.type "object") = some true
  be : mroIn K C (.type "BaseException") = some true
end L2
namespace L2
open PySem PySem.Spec PyProof.Rows PySem.W
section
variable {X : Cx} {pins pins' : List (Addr × Obj)} {σ : St} {H : Hp} {s : Shared} {T : Value → Shared → Prop}
theorem Inv.Jr {a : Addr} {o : HO} (I : Inv X pins σ H s) (n0 : H a = none) (n1 : X.s₀.heap.get? a = none) (n2 : a ≠ X.env.locals) (n3 : ∀ x c, X.env.cells.lookup x = some c → c ≠ a) (n4 : ∀ p ∈ X.pn ++ pins, p.1 ≠ a)
    (ob : ObjOk X.prog X.w (upd H a o) s.heap a o) : Inv X pins σ (upd H a o) s := by
  have un : ∀ b u, H b = some u → upd H a o b = some u := fun b u e => by rw [ai (bh e n0)]; exact e
  refine ⟨I.ok, I.os, I.bare, ⟨I.base.keep, I.base.slot, fun b u q n hx => ?_, I.base.there, fun b xs e => un _ _ (I.base.tups b xs e), fun b u v e => un _ _ (I.base.frzs b u v e), fun b ps e => ?_⟩, I.loc, I.cell, ?_, fun x c e => ?_, fun p hp => ?_, fun b u e => ?_, I.len⟩
  · rw [ai (fun z => by rw [z, n1] at q; cases q)]
    exact I.base.free b u q n hx
  · obtain ⟨more, z⟩ := I.base.tbls b ps e
    exact ⟨more, un _ _ z⟩
  · rw [ai (Ne.symm n2)]
    exact I.free
  · rw [ai (n3 x c e)]
    exact I.freeC x c e
  · obtain ⟨p1, p2, p3⟩ := I.pin p hp
    exact ⟨p1, by rw [ai (n4 p hp)]; exact p2, p3⟩
  · by_cases hb : b = a
    · subst hb
      rw [aM] at e
      cases e
      exact ob
    · rw [ai hb] at e
      exact (I.hok b u e).kc (fun _ _ _ q => q) (fun c q => un _ _ q) fun c xs q => un _ _ q
end
structure yq (K : Frag) (C0 : Addr) : Prop where
  ty : typeIn K (.ref C0) = some (.type "type")
  be : subIn K (.ref C0) (.type "BaseException") = some true
  it : (clsIn K C0).isSome = true
theorem Cu {P : Program} {w : World} {X : Cx} : Passes (fy P w) X (fun _ _ _ => False) := fun _ _ _ _ _ _ _ h => by
  obtain ⟨_, _, _, _, _, _, _, _, _, _, _, _, _, q⟩ := h
  exact q.elim
theorem qG.yi {P : Program} {w : World} {K : PySem.W.Frag} {mg : Str → Option Value} {base : Heap} {x qual : Str} {st : Stmt} {f : Addr} {fd : FuncData} {N ps : List Str} {k : Nat} {sp : Sp} (F : qG K x qual st f fd) (S : aU N ps (aj st)) (len : ∀ vs H Q E, sp vs H Q E → vs.length = ps.length)
    (ow : ∀ (A : Around) (outer : List Env) (s : Shared) (H : Hp) (vs : List V) (Q : VK) (E : XK), cF k (A.deeper (envOfC qual (aj st) s.heap.objs.size f fd.code)) → sp vs H Q E →
      ∃ t, fU (fM (fy P w) P w K mg base N qual (aj st) f fd.code A outer s H E) (dr st) t ∧ t { nx := fun _ H' => Q .au H', rt := Q } (start N vs) H) : FnOk P w K mg base (fy P w) (k + 1) f fd ps sp := by
  obtain ⟨oc, od, kV, doc, pm, an, dN, ct, lz, rfl, lk, gd⟩ := F.ex
  exact Ci lk gd S len fun A outer s H vs Q E hr m6 => ow A outer s H vs Q E hr m6
noncomputable def Ky : List Value := [.type "ValueError", .type "Exception", .type "BaseException", .type "object"]
noncomputable def AK (K : Frag) (C0 C : Addr) : Bool := excIn K C Ky "ValueError.__new__" && (clsIn K C).isSome && findIn K (.ref C) "__getattribute__" == some (some (.builtin "BaseException.__getattribute__")) && findIn K (.ref C) "__getattr__" == some none &&
  findIn K (.ref C) "__class__" == some (some (.builtin "object.__class__")) && mroIn K C (.type "object") == some true && mroIn K C (.type "BaseException") == some true && subIn K (.ref C) (.ref C0) == some true && kitOne K (.ref C) (.type "ValueError") == some true
noncomputable def wk (K : Frag) (C0 : Addr) (cs : List Addr) : Bool := cs.all (AK K C0) && (cs.all fun C => cs.all fun D => kitOne K (.ref C) (.ref D) == some (decide (C = D))) && specialIn K (.builtin "object.__class__") "__get__" == some (some (.builtin "getset_descriptor.__get__")) && takesIn K (.builtin "object.__class__") == some true &&
  typeIn K (.ref C0) == some (.type "type") && subIn K (.ref C0) (.type "BaseException") == some true && (clsIn K C0).isSome
structure GD (K : Frag) (C0 : Addr) (cs : List Addr) : Prop where
  ex : ∀ C ∈ cs, excIn K C Ky "ValueError.__new__" = true
  cl : ∀ C ∈ cs, GC K C
  sub : ∀ C ∈ cs, subIn K (.ref C) (.ref C0) = some true
  one : ∀ C ∈ cs, ∀ D ∈ cs, kitOne K (.ref C) (.ref D) = some (decide (C = D))
  val : ∀ C ∈ cs, kitOne K (.ref C) (.type "ValueError") = some true
  top : yq K C0
theorem DL {K : Frag} {C0 : Addr} {cs : List Addr} (h : wk K C0 cs = true) : GD K C0 cs := by
  unfold wk at h
  simp only [Bool.and_eq_true] at h
  obtain ⟨⟨⟨⟨⟨⟨h1, h2⟩, h3⟩, h4⟩, h5⟩, h6⟩, h7⟩ := h
  have all : ∀ C ∈ cs, AK K C0 C = true := List.all_eq_true.mp h1
  have part : ∀ C ∈ cs, _ := fun C hC => by
    have z := all C hC
    unfold AK at z
    simp only [Bool.and_eq_true] at z
    exact z
  refine ⟨fun C hC => (part C hC).1.1.1.1.1.1.1.1, fun C hC => ?_, fun C hC => beq_iff_eq.mp (part C hC).1.2, fun C hC D hD => beq_iff_eq.mp (List.all_eq_true.mp (List.all_eq_true.mp h2 C hC) D hD), fun C hC => beq_iff_eq.mp (part C hC).2, ⟨beq_iff_eq.mp h5, beq_iff_eq.mp h6, h7⟩⟩
  obtain ⟨⟨⟨⟨⟨⟨⟨⟨_, p1⟩, p2⟩, p3⟩, p4⟩, p5⟩, p6⟩, _⟩, _⟩ := part C hC
  exact ⟨p1, beq_iff_eq.mp p2, beq_iff_eq.mp p3, beq_iff_eq.mp p4, beq_iff_eq.mp h3, beq_iff_eq.mp h4, beq_iff_eq.mp p5, beq_iff_eq.mp p6⟩
end L2
namespace L2
open PySem PySem.Spec PyProof.Rows Builtin.SmallTypes
noncomputable def SqIt (k : Bool) (h : Heap) (it a : Addr) (i : Nat) : Prop := if k = true then h.IsListIter it a i else h.IsTupleIter it a i
noncomputable def cg (k : Bool) (h : Heap) (a : Addr) (items : Array Value) : Prop := if k = true then h.IsList a items else h.IsTuple a items
theorem SqIt.at {k : Bool} {h h' : Heap} {it a : Addr} {i : Nat} (x : SqIt k h it a i) (q : ∀ o, h.get? it = some o → h'.get? it = some o) : SqIt k h' it a i := by
  cases k with
  | true => exact Heap.IsListIter.at (h := h) x q
  | false => exact Heap.IsTupleIter.at (h := h) x q
theorem SqIt.obj {k : Bool} {h : Heap} {it a : Addr} {i : Nat} (x : SqIt k h it a i) : ∃ o, h.get? it = some o ∧ ∃ vs, o.data = .fields vs := by
  cases k with
  | true => obtain ⟨o, e, _, d⟩ := (show h.IsListIter it a i from x); exact ⟨o, e, _, d⟩
  | false => obtain ⟨o, e, _, d⟩ := (show h.IsTupleIter it a i from x); exact ⟨o, e, _, d⟩
theorem cg.obj {k : Bool} {h : Heap} {a : Addr} {items : Array Value} (x : cg k h a items) : ∃ o n, h.get? a = some o ∧ o.data = .seq items n := by
  cases k with
  | true => obtain ⟨o, e, _, n, d⟩ := (show h.IsList a items from x); exact ⟨o, n, e, d⟩
  | false => obtain ⟨o, e, _, n, d⟩ := (show h.IsTuple a items from x); exact ⟨o, n, e, d⟩
theorem cg.at {k : Bool} {h h' : Heap} {a : Addr} {items : Array Value} (x : cg k h a items) (q : ∀ o, h.get? a = some o → h'.get? a = some o) : cg k h' a items := by
  cases k with
  | true => exact Heap.IsList.at (h := h) x q
  | false => exact Heap.IsTuple.at (h := h) x q
section
variable {prog : Program} {w : World} {A : Around} {E : Value → Shared → Prop} {s : Shared} {it a : Addr} {i : Nat} {items : Array Value} {x : Value} {k : Bool}
theorem AO {Q : Option Value → Shared → Prop} (hit : s.heap.IsTupleIter it a i) (ha : s.heap.IsTuple a items) (hx : items[i]? = some x)
    (hQ : ∀ h', h'.IsTupleIter it a (i + 1) → Heap.SameBut it s.heap h' → Q (some x) { s with heap := h' }) : wpAny (model prog w) A (callSpecial? (.ref it) "__next__") Q E s := by
  obtain ⟨o, ho, hc, hd⟩ := id hit
  obtain ⟨ol, yr, _, nl, GF⟩ := ha
  have sl := F.slot_tuple_iterator_next
  refine wpAny_callSpecial?_slot (name := Str.ofString "__next__") hit.typeIs sl (wpAny_call_entry sl hit.typeIs F.entry_tuple_iterator_next ?_ (F.args_tuple_iterator_next_1 _))
  have nn : ¬ ((Value.ref a == Value.none) = true) := Bool.false_ne_true
  refine wpAny_bind (m := field (.ref it) 0) (wpAny_field ho hd (x := .ref a) rfl ?_)
  rw [if_neg nn]
  refine wpAny_bind (m := field (.ref it) 1) (wpAny_field ho hd (x := .int i 0) rfl (wpAny_bind (m := seqItems? (.ref a)) (wpAny_seqItems yr GF ?_)))
  simp only [Int.toNat_natCast, hx]
  refine wpAny_bind (m := setField _ _ _) (wpAny_setField ho hd (by simp) (wpAny_pure ⟨x, rfl, hQ _ ?_ (Heap.SameBut.update ..)⟩))
  refine ⟨_, Heap.get?_update_self _ ho (Obj.isFreed_of_fields (Obj.data_mapFields hd _)), (Obj.cls_mapFields ..).trans hc, ?_⟩
  rw [Obj.data_mapFields hd]
  simp [rawInt]
theorem AQ {Q : Option Value → Shared → Prop} (hh : A.handled = none) (hit : s.heap.IsTupleIter it a i) (ha : s.heap.IsTuple a items) (hx : items[i]? = none)
    (hE : ∀ h' e, Heap.ExtBut it s.heap h' → (∃ o, h'.get? e = some o ∧ o.cls = .type "StopIteration") → E (.ref e) { s with heap := h' }) : wpAny (model prog w) A (callSpecial? (.ref it) "__next__") Q E s := by
  obtain ⟨o, ho, hc, hd⟩ := id hit
  obtain ⟨ol, yr, _, nl, GF⟩ := ha
  have sl := F.slot_tuple_iterator_next
  refine wpAny_callSpecial?_slot (name := Str.ofString "__next__") hit.typeIs sl (wpAny_call_entry sl hit.typeIs F.entry_tuple_iterator_next ?_ (F.args_tuple_iterator_next_1 _))
  have nn : ¬ ((Value.ref a == Value.none) = true) := Bool.false_ne_true
  refine wpAny_bind (m := field (.ref it) 0) (wpAny_field ho hd (x := .ref a) rfl ?_)
  rw [if_neg nn]
  refine wpAny_bind (m := field (.ref it) 1) (wpAny_field ho hd (x := .int i 0) rfl (wpAny_bind (m := seqItems? (.ref a)) (wpAny_seqItems yr GF ?_)))
  simp only [Int.toNat_natCast, hx]
  refine wpAny_bind (wpAny_rule (wpAny_bind (m := setField _ _ _) (wpAny_setField ho hd (by simp) ?_)))
  refine wpAny_bind (m := newExc (.type "StopIteration") []) ?_
  unfold newExc newTuple
  refine wpAny_bind (wpAny_newObj_type ?_ (by size_fits))
  refine wpAny_bind (m := firstArgMember _ _) (wpAny_of_eq (a := Value.none) (by first | rfl | (simp only [firstArgMember]; rfl)) (wpAny_newObj_type ?_ (by size_fits)))
  refine wpAny_raiseNew_none hh ?_
  exact hE _ _ (((Heap.SameBut.update ..).extBut.push _).push _) ⟨_, Heap.get?_push_size _ rfl, rfl⟩
theorem mI {Q : Value → Shared → Prop} (hit : SqIt k s.heap it a i) (ha : cg k s.heap a items) (hx : items[i]? = some x)
    (hQ : ∀ h', SqIt k h' it a (i + 1) → Heap.SameBut it s.heap h' → Q x { s with heap := h' }) : wpAny (model prog w) A (nextOf (.ref it)) Q E s := by
  cases k with
  | true => exact wpAny_nextOf_list_item hit ha hx hQ
  | false =>
    unfold nextOf
    exact wpAny_bind (AO hit ha hx fun h' a b => wpAny_pure (hQ h' a b))
theorem pQ {Q : Value → Shared → Prop} (hh : A.handled = none) (hit : SqIt k s.heap it a i) (ha : cg k s.heap a items) (hx : items[i]? = none)
    (hE : ∀ h' e, Heap.ExtBut it s.heap h' → (∃ o, h'.get? e = some o ∧ o.cls = .type "StopIteration") → E (.ref e) { s with heap := h' }) : wpAny (model prog w) A (nextOf (.ref it)) Q E s := by
  cases k with
  | true => exact wpAny_nextOf_list_end hh hit ha hx hE
  | false =>
    unfold nextOf
    exact wpAny_bind (AQ hh hit ha hx hE)
end
section
variable {prog : Program} {w : World} {A : Around} {E : Value → Shared → Prop} {s : Shared} {e it a : Addr} {i : Nat} {items : Array Value} {x old : Value} {k : Bool}
theorem yt {Q : Value → Shared → Prop} (he : IsEnum s.heap e it i old) (fY : e ≠ it) (hit : SqIt k s.heap it a i) (ha : cg k s.heap a items) (hx : items[i]? = some x)
    (hQ : ∀ h', IsEnumOut h' e it ((i : Int) + 1) x s.heap.objs.size → SqIt k h' it a (i + 1) → h'.get? s.heap.objs.size = some { cls := .type "tuple", data := .seq #[.int i s.toks, x] } →
      (∀ b o, b ≠ e → b ≠ it → s.heap.get? b = some o → h'.get? b = some o) → Q (.ref s.heap.objs.size) { s with heap := h', toks := s.toks + 1 }) :
    wpAny (model prog w) A (Builtin.«enumerate.__next__» ⟨[.ref e], []⟩) (fun fin s' => ∃ v, fin = .done (.ret v) ∧ Q v s') E s := by
  obtain ⟨hp, g, d, tk, os⟩ := s
  refine wpAny_bind (m := field (.ref e) 2) (wpAny_field he rfl (x := .ref it) rfl (wpAny_bind (m := nextOf (.ref it)) (mI hit ha hx fun h1 yu (fA : Heap.SameBut it hp h1) => ?_)))
  have e1 : IsEnum h1 e it i old := (fA.2 e fY).trans he
  refine wpAny_bind (m := field (.ref e) 3) (wpAny_field e1 rfl (x := rawInt i) rfl (wpAny_bind (m := field (.ref e) 4) (wpAny_field e1 rfl (x := .none) rfl (wpAny_bind (m := mkInt i) (wpAny_mkInt ?_)))))
  refine wpAny_bind (m := setField (.ref e) 3 _) (wpAny_setField_rec e1 (by simp) fun h2 (e2 : IsEnum h2 e it ((i : Int) + 1) old) (ee : Heap.SameBut e h1 h2) => ?_)
  refine wpAny_bind (m := setField (.ref e) 4 .none) (wpAny_setField_rec e2 (by simp) fun h3 (e3 : IsEnum h3 e it ((i : Int) + 1) old) (jy : Heap.SameBut e h2 h3) => ?_)
  refine wpAny_bind (m := newTuple [.int i tk, x]) (wpAny_newTuple ?_)
  have z3 : h3.objs.size = hp.objs.size := by rw [jy.1, ee.1, fA.1]
  have el : e < hp.objs.size := Heap.lt_size he
  have e4 : IsEnum (h3.push { cls := .type "tuple", data := .seq #[.int i tk, x] }) e it ((i : Int) + 1) old := Heap.get?_push_of_some _ e3
  have t4 : (h3.push { cls := .type "tuple", data := .seq #[.int i tk, x] }).get? hp.objs.size = some { cls := .type "tuple", data := .seq #[.int i tk, x] } := z3 ▸ Heap.get?_push_size _ rfl
  have up : ∀ b o, b ≠ e → h1.get? b = some o → (h3.push { cls := .type "tuple", data := .seq #[.int i tk, x] }).get? b = some o := fun b o n q => Heap.get?_push_of_some _ (jy.extBut b o n (ee.extBut b o n q))
  generalize h3.push { cls := .type "tuple", data := .seq #[.int i tk, x] } = h4 at e4 t4 up
  rw [z3]
  refine wpAny_bind (m := ownedTupleIsFree (.ref e)) ?_
  unfold ownedTupleIsFree
  refine wpAny_bind (m := field (.ref e) 0) (wpAny_field e4 rfl (x := .none) rfl (wpAny_pure ?_))
  rw [if_pos rfl]
  refine wpAny_bind (wpAny_rule (wpAny_bind (m := field (.ref e) 5) (wpAny_field e4 rfl (x := old) rfl ?_)))
  refine wpAny_bind (m := setField (.ref e) 5 x) (wpAny_setField_rec e4 (by simp) fun h5 (e5 : IsEnum h5 e it ((i : Int) + 1) x) (sQ : Heap.SameBut e h4 h5) => ?_)
  refine wpAny_bind (m := ownedTupleHandOut (.ref e) _) ?_
  unfold ownedTupleHandOut
  refine wpAny_bind (wpAny_setField_rec e5 (by simp) fun h6 (e6 : IsEnumOut h6 e it ((i : Int) + 1) x hp.objs.size) (Nc : Heap.SameBut e h5 h6) => ?_)
  refine wpAny_setField_rec e6 (by simp) fun h7 (e7 : IsEnumOut h7 e it ((i : Int) + 1) x hp.objs.size) (Cv : Heap.SameBut e h6 h7) => ?_
  have GH : ∀ b o, b ≠ e → h4.get? b = some o → h7.get? b = some o := fun b o n q => Cv.extBut b o n (Nc.extBut b o n (sQ.extBut b o n q))
  refine wpAny_bind (wpAny_letGo (wpAny_pure ⟨_, rfl, hQ h7 e7 (yu.at fun o q => GH it o (Ne.symm fY) (up it o (Ne.symm fY) q)) (GH _ _ (Nat.ne_of_gt el) t4) fun b o n1 n2 q => GH b o n1 (up b o n1 ((fA.2 b n2).trans q))⟩))
theorem yw {Q : Option Value → Shared → Prop} (he : IsEnum s.heap e it i old) (fY : e ≠ it) (hit : SqIt k s.heap it a i) (ha : cg k s.heap a items) (hx : items[i]? = some x)
    (hQ : ∀ h', IsEnumOut h' e it ((i : Int) + 1) x s.heap.objs.size → SqIt k h' it a (i + 1) → h'.get? s.heap.objs.size = some { cls := .type "tuple", data := .seq #[.int i s.toks, x] } →
      (∀ b o, b ≠ e → b ≠ it → s.heap.get? b = some o → h'.get? b = some o) → Q (some (.ref s.heap.objs.size)) { s with heap := h', toks := s.toks + 1 }) :
    wpAny (model prog w) A (pyNext (.ref e)) Q E s := by
  have hT : s.TypeIs (.ref e) "enumerate" := ⟨_, he, rfl⟩
  have sl := F.slot_enumerate_next
  unfold pyNext
  exact wpAny_bind (wpAny_attempt (wpAny_callSpecial?_slot (name := Str.ofString "__next__") hT sl (wpAny_call_entry sl hT F.entry_enumerate_next (yt he fY hit ha hx fun h' a b c d => wpAny_pure (hQ h' a b c d)) (F.args_enumerate_next_1 _))))
theorem yx {Q : Option Value → Shared → Prop} (hh : A.handled = none) (he : IsEnum s.heap e it i old) (hit : SqIt k s.heap it a i) (ha : cg k s.heap a items) (hx : items[i]? = none)
    (hQ : ∀ h', Heap.ExtBut it s.heap h' → Q none { s with heap := h' }) : wpAny (model prog w) A (pyNext (.ref e)) Q E s := by
  have hT : s.TypeIs (.ref e) "enumerate" := ⟨_, he, rfl⟩
  have sl := F.slot_enumerate_next
  unfold pyNext
  refine wpAny_bind (wpAny_attempt (wpAny_callSpecial?_slot (name := Str.ofString "__next__") hT sl (wpAny_call_entry sl hT F.entry_enumerate_next ?_ (F.args_enumerate_next_1 _))))
  refine wpAny_bind (m := field (.ref e) 2) (wpAny_field he rfl (x := .ref it) rfl (wpAny_bind (m := nextOf (.ref it)) (pQ hh hit ha hx fun h' y eb ⟨o, ho, hc⟩ => ?_)))
  exact wpAny_bind (wpAny_isInstance (T := "StopIteration") (b := true) ⟨o, ho, hc⟩ isSubtype_stop (wpAny_pure (hQ _ eb)))
end
end L2
namespace L2
open PySem PySem.Spec PyProof.Rows Builtin.SmallTypes AutoSeq1
theorem sR : bootBuiltins "enumerate" = some (.type "enumerate") := by decide +kernel
theorem GI : bootBuiltins "zip" = some (.type "zip") := by decide +kernel
section
variable {X : Cx} {pins : List (Addr × Obj)} {σ : St} {H : Hp} {s : Shared} {h' : Heap}
theorem Inv.mJ {t' : Nat} {ch : List Addr} (I : Inv X pins σ H s) (k : ∀ b o, b ∉ ch → s.heap.get? b = some o → h'.get? b = some o) (hf : ∀ b ∈ ch, cM X pins H b) : Inv X pins σ H { s with heap := h', toks := t' } := by
  have xA : ∀ b u, H b = some u → b ∉ ch := fun b u e z => by rw [(hf b z).1] at e; cases e
  refine I.step (g' := s.gens) (d' := s.drawn) (ch := ch) (fun b hb => ?_) (fun b o _ _ hc e _ => k b o hc e) (fun b o _ _ hc e _ => ⟨o.slots, k b o hc e⟩) (fun _ _ _ _ n => n)
    (fun b o hc e => ⟨o, k b o hc e⟩) (fun _ _ e => e) (fun _ _ _ e => e) (fun b ps e => ⟨#[], by rw [e]; simp⟩) (fun m hm => ?_) (fun b u e => ?_) I.bare.self
  · obtain ⟨_, f1, f2, f3, f4, f5⟩ := hf b hb
    exact ⟨f3, f1, f4, f5⟩
  · obtain ⟨o, es, ep, ho, r⟩ := hm
    exact ⟨o, es, ep, k _ o (fun z => (hf _ z).2.1 rfl) ho, r⟩
  · refine (I.hok b u e).kc (fun c v hc q => k c v ?_ q) (fun _ q => q) fun _ _ q => q
    rcases hc with z | z
    · rw [z]; exact xA b u e
    · exact xA c _ z
theorem Inv.pair {t : Addr} {a b : V} {u v : Value} {h1 : Heap} {tk tk0 : Nat} (I0 : Inv X pins σ H { s with toks := tk0 }) (ht : s.heap.objs.size ≤ t) (I : Inv X pins σ H { s with heap := h1, toks := tk }) (e : h1.get? t = some { cls := .type "tuple", data := .seq #[u, v] }) (ru : RelV a u) (rv : RelV b v) :
    Inv X pins σ (upd H t (.tup [a, b])) { s with heap := h1, toks := tk } := by
  have f := Inv.jP (H' := H) I0 (b := t) ht (I0.hok.fresh ht)
  refine I.Jr f.1 ?_ f.2.1 f.2.2.2.2.1 f.2.2.2.2.2 ⟨by show 2 ≤ sizeLine; decide, [u, v], .cons ru (.cons rv .nil), ⟨_, e, rfl, _, rfl, rfl⟩⟩
  exact Heap.get?_none_of_le (Nat.le_trans I0.sz ht)
end
noncomputable def Sq (k : Bool) (K : PySem.W.Frag) (H : Hp) (a : Addr) (xs : List V) : Prop := if k = true then bH K H a xs else cN K H a xs
theorem Inv.sq {X : Cx} {pins : List (Addr × Obj)} {σ : St} {H : Hp} {s : Shared} {k : Bool} {a : Addr} {xs : List V} (I : Inv X pins σ H s) (h : Sq k X.K H a xs) : ∃ its : List Value, Vals xs its ∧ cg k s.heap a its.toArray := by
  cases k with
  | true => obtain ⟨its, rv, p, _⟩ := I.list (show bH X.K H a xs from h); exact ⟨its, rv, p.isList⟩
  | false => obtain ⟨its, rv, p, _⟩ := I.tuple (show cN X.K H a xs from h); exact ⟨its, rv, p⟩
theorem Inv.sS {X : Cx} {pins : List (Addr × Obj)} {σ : St} {H : Hp} {s : Shared} {k : Bool} {a : Addr} {xs ys : List V} (I : Inv X pins σ H s) (h : Sq k X.K H a xs) (h' : Sq k X.K H a ys) : xs = ys := by
  cases k with
  | true => exact I.si (show bH X.K H a xs from h) h'
  | false => exact I.qt (show cN X.K H a xs from h) h'
noncomputable def Cw (k : Bool) (K : PySem.W.Frag) (a : Addr) : It :=
  ⟨fun i H => ∃ xs x, Sq k K H a xs ∧ xs[i]? = some x, fun i H v H' => ∃ t x, H t = none ∧ v = .ref t ∧ H' = upd H t (.tup [.int (i : Nat), x]) ∧ ∀ xs, Sq k K H a xs → xs[i]? = some x, fun i H => ∃ xs, Sq k K H a xs ∧ xs.length ≤ i⟩
theorem yy {P : Program} {w : World} {K : PySem.W.Frag} {elts : List Expr} {x1 : Nat} {pos : Pos} (k : Bool) (a it e : Addr) (fY : e ≠ it) :
    Turn P w K (.Tuple elts x1 pos) (Cw k K a) [e, it] e (fun i h => (∃ old, IsEnum h e it i old) ∧ SqIt k h it a i) where
  mem := by simp
  obj := fun i h st b hb => by
    obtain ⟨⟨old, he⟩, hit⟩ := st
    simp only [List.mem_cons, List.not_mem_nil, or_false] at hb
    rcases hb with rfl | rfl
    · exact ⟨_, he, fun v z => nomatch z⟩
    · obtain ⟨o, ho, vs, hd⟩ := hit.obj
      exact ⟨o, ho, fun v z => by rw [hd] at z; cases z⟩
  keep := fun i h h' st q => by
    obtain ⟨⟨old, he⟩, hit⟩ := st
    exact ⟨⟨old, q e (by simp) _ he⟩, hit.at fun o ho => q it (by simp) o ho⟩
  item := by
    intro X hP hw hK hc i pins s σ H E I hf st hg
    subst hP hw hK
    obtain ⟨⟨old, he⟩, hit⟩ := st
    obtain ⟨xs, x, hq, hx⟩ := hg
    obtain ⟨its, rv, p⟩ := I.sq hq
    obtain ⟨u, hu, ru⟩ := rv.get hx
    refine yw he fY hit p (x := u) (by simpa using hu) fun h1 eo yu t1 kk => ?_
    refine ⟨_, rfl, wpAny_letOwnedTupleGo_enum eo fun h2 e2 (ee : Heap.SameBut e h1 h2) => ?_⟩
    have el : e < s.heap.objs.size := Heap.lt_size he
    have I2 : Inv X pins σ H { s with heap := h2, toks := s.toks + 1 } := I.mJ (ch := [e, it]) (fun b o hb q => by
      simp only [List.mem_cons, List.not_mem_nil, or_false, not_or] at hb
      exact (ee.2 b hb.1).trans (kk b o hb.1 hb.2 q)) hf
    have t2 : h2.get? s.heap.objs.size = some { cls := .type "tuple", data := .seq #[.int i s.toks, u] } := (ee.2 _ (Nat.ne_of_gt el)).trans t1
    have hn : H s.heap.objs.size = none := I.hok.fresh (Nat.le_refl _)
    refine ⟨.ref s.heap.objs.size, _, Inv.pair (s := s) (tk0 := s.toks) I (Nat.le_refl _) I2 t2 (a := .int (i : Nat)) ⟨s.toks, rfl⟩ ru, rfl, ⟨_, x, hn, rfl, rfl, fun ys hy => by rw [I.sS hy hq]; exact hx⟩, ⟨⟨u, ?_⟩, yu.at fun o q => (ee.2 it (Ne.symm fY)).trans q⟩, fun b hb => ?_⟩
    · have c : ((i + 1 : Nat) : Int) = (i : Int) + 1 := by push_cast; rfl
      rw [c]
      exact e2
    · have l : b ≠ s.heap.objs.size := by
        simp only [List.mem_cons, List.not_mem_nil, or_false] at hb
        rcases hb with rfl | rfl
        · exact Nat.ne_of_lt el
        · obtain ⟨o, ho, _⟩ := hit.obj
          exact Nat.ne_of_lt (Heap.lt_size ho)
      rw [ai l]
      exact (hf b hb).1
  done := by
    intro X hP hw hK hc i pins s σ H E I hf st hg
    subst hP hw hK
    obtain ⟨⟨old, he⟩, hit⟩ := st
    obtain ⟨xs, hq, hx⟩ := hg
    obtain ⟨its, rv, p⟩ := I.sq hq
    have hl := rv.length
    exact yx (I.ok.hd hc) he hit p (by simp; omega) fun h1 eb => ⟨rfl, I.mJ (t' := s.toks) (ch := [it]) (fun b o hb q => eb b o (by simpa using hb) q) fun b hb => hf b (by simp at hb; simp [hb])⟩
  self := fun _ _ _ _ _ st h => wpAny_pyIter_enum st.1.choose_spec h
noncomputable abbrev yz (a : Addr) : Obj := { cls := .type "tuple_iterator", data := .fields #[.ref a, .int 0 0] }
noncomputable abbrev GJ (it : Addr) : Obj := { cls := .type "enumerate", data := .fields #[.none, .bool false, .ref it, rawInt 0, .none, .none] }
theorem DM (a : Addr) (items : Array Value) (n : Nat) (dct : Option Addr) (sl : Array (Option Value)) :
    Meets (Builtin.«enumerate.__new__» ⟨[.type "enumerate", .ref a], []⟩) (fun _ R s => s.heap.get? a = some { cls := .type "tuple", dict := dct, data := .seq items n, slots := sl } ∧
      R (.ok (.ret (.ref (s.heap.push (yz a)).objs.size))) { s with heap := (s.heap.push (yz a)).push (GJ s.heap.objs.size) }) :=
  .of_wp fun prog w A R s h => by
    obtain ⟨hp, g, d, tk, os⟩ := s
    obtain ⟨hl, h⟩ := h
    have Ma := sub_enumerate
    have hT : Heap.IsTuple (Shared.heap ⟨hp, g, d, tk, os⟩) a items := ⟨_, hl, rfl, n, rfl⟩
    wp_walk using wpAny_loadPart' hl
    refine wpAny_stack_any fun st => wpAny_pure ?_
    split
    case h_1 c _ _ _ _ _ => cases (c == Value.type "enumerate") <;> (wp_walk using wpAny_loadPart' hl, wpAny_pyIter_tuple hT; exact ⟨_, rfl, h⟩)
    case h_2 => wp_walk using wpAny_loadPart' hl, wpAny_pyIter_tuple hT; exact ⟨_, rfl, h⟩
section
variable {prog : Program} {w : World} {A : Around} {E : Value → Shared → Prop} {s : Shared}
theorem wm {a : Addr} {items : Array Value} {Q : Value → Shared → Prop} (hT : s.heap.IsTuple a items)
    (h : ∀ h', IsEnum h' (s.heap.objs.size + 1) s.heap.objs.size 0 .none → h'.IsTupleIter s.heap.objs.size a 0 → (∀ b o, s.heap.get? b = some o → h'.get? b = some o) → Q (.ref (s.heap.objs.size + 1)) { s with heap := h' }) :
    wpAny (model prog w) A (call (.type "enumerate") [.ref a]) Q E s := by
  obtain ⟨ob, ho, hc, n, hd⟩ := hT
  obtain ⟨c, dd, dt, sl⟩ := ob
  dsimp only at hc hd
  subst hc hd
  refine callType_new F.called_enumerate (by decide) (F.typeCall_enumerate_1 _) (F.newCall_enumerate_1 _) (fun obj => F.args_object_init_2 obj _) F.entry_enumerate_new (DM a items n dd sl) ⟨ho, ?_⟩
  have z : (s.heap.push (yz a)).objs.size = s.heap.objs.size + 1 := Heap.size_push ..
  have he : ((s.heap.push (yz a)).push (GJ s.heap.objs.size)).get? (s.heap.objs.size + 1) = some (GJ s.heap.objs.size) := z ▸ Heap.get?_push_size (s.heap.push (yz a)) rfl
  show _ ∧ _
  rw [z]
  exact ⟨⟨_, he, rfl⟩, h _ he ⟨_, Heap.get?_push_of_some _ (Heap.get?_push_size _ rfl), rfl, rfl⟩ fun b o x => Heap.get?_push_of_some _ (Heap.get?_push_of_some _ x)⟩
theorem yA {k : Bool} {a : Addr} {items : Array Value} {Q : Value → Shared → Prop} (hT : cg k s.heap a items)
    (h : ∀ h', IsEnum h' (s.heap.objs.size + 1) s.heap.objs.size 0 .none → SqIt k h' s.heap.objs.size a 0 → (∀ b o, s.heap.get? b = some o → h'.get? b = some o) → Q (.ref (s.heap.objs.size + 1)) { s with heap := h' }) :
    wpAny (model prog w) A (call (.type "enumerate") [.ref a]) Q E s := by
  cases k with
  | true => exact call_enumerate_list hT fun h' a b _ c => h h' a b c
  | false => exact wm hT h
end
section
variable {X : Cx} {l : Expr} {tl : TE} {elts : List Expr} {x1 : Nat} {tp p pos : Pos}
noncomputable def Js (k : Bool) (K : PySem.W.Frag) (tl : TE) : TI := fun σ H R => tl σ H fun x H1 => ∃ a, x = .ref a ∧ (∃ xs, Sq k K H1 a xs) ∧ R (Cw k K a) H1
theorem DN (k : Bool) {K : PySem.W.Frag} (hK : X.K = K) (hg : Gl X "enumerate") (hm : X.mg "enumerate" = none) (hl : PE X l tl) (hs : starEach [l] X.env = [(false, eval l X.env)] := by rfl) :
    PI X (.Tuple elts x1 tp) (.Call (.Name "enumerate" p) [l] [] pos) (Js k K tl) := by
  subst hK
  intro pins s σ H R I h
  refine wpAny_Call_Name_kw (fx I hg hm sR ?_)
  refine PyProof.Rows.callWith_type1 ?_ hs rfl
  rw [hs]
  refine Calls.spliced_cons (thn (hl pins s σ H _ I h) fun v s1 ⟨x, H1, I1, r1, q1⟩ => Calls.spliced_nil ?_)
  obtain ⟨a, rfl, ⟨xs, hq⟩, q⟩ := q1
  cases (show v = Value.ref a from r1)
  obtain ⟨its, rv, sq⟩ := I1.sq hq
  refine yA sq fun h' he hit kk => ?_
  refine wpAny_pyIter_enum he ?_
  have I2 : Inv X pins σ H1 { s1 with heap := h' } := I1.kept (t' := s1.toks) kk
  have ne : s1.heap.objs.size + 1 ≠ s1.heap.objs.size := Nat.ne_of_gt (Nat.lt_succ_self _)
  refine ⟨_, [s1.heap.objs.size + 1, s1.heap.objs.size], _, Cw k X.K a, H1, rfl, I2, yy k a _ _ ne, ⟨⟨_, he⟩, hit⟩, fun b hb => ?_, q⟩
  simp only [List.mem_cons, List.not_mem_nil, or_false] at hb
  rcases hb with rfl | rfl
  · exact I1.jP (Nat.le_succ _) (I1.hok.fresh (Nat.le_succ _))
  · exact I1.jP (Nat.le_refl _) (I1.hok.fresh (Nat.le_refl _))
end
noncomputable def wo (J : It) (ys : List (V × V)) (H : Hp) : Prop := ∀ i, (i < ys.length → J.go i H ∧ ∀ x H', J.yld i H x H' → ∃ t p, H t = none ∧ x = .ref t ∧ ys[i]? = some p ∧ H' = upd H t (.tup [p.1, p.2])) ∧ (ys.length ≤ i → J.stop i H)
theorem qO {k : Bool} {K : PySem.W.Frag} {a : Addr} {ys : List V} {H : Hp} (h : Sq k K H a ys) : wo (Cw k K a) ((List.range ys.length).map fun i => (V.int (i : Nat), ys.getD i .au)) H := fun i => by
  have el : ((List.range ys.length).map fun i => (V.int (i : Nat), ys.getD i .au)).length = ys.length := by simp
  rw [el]
  refine ⟨fun hi => ⟨⟨ys, ys[i], h, List.getElem?_eq_getElem hi⟩, fun x H' ⟨t, y, n, e1, e2, e3⟩ => ⟨t, (.int (i : Nat), y), n, e1, ?_, e2⟩⟩, fun hi => ⟨ys, h, hi⟩⟩
  rw [List.getElem?_map, List.getElem?_range hi]
  have := e3 ys h
  show some (V.int (i : Nat), ys.getD i .au) = _
  rw [List.getD_eq_getElem?_getD, this]
  rfl
section
variable {prog : Program} {w : World} {A : Around} {E : Value → Shared → Prop} {s : Shared} {z TI TO i1 i2 l1 l2 : Addr} {n1 n2 : Nat} {xs ys : Array Value} {x y a b : Value} {k1 k2 : Bool}
theorem AR {Q : Value → Shared → Prop} (D : ZipApart z TI TO i1 i2 l1 l2) (hz : IsZip s.heap z TI TO .none) (gr : IsPair s.heap TI (.ref i1) (.ref i2)) (gK : IsPair s.heap TO a b)
    (h1 : SqIt k1 s.heap i1 l1 n1) (h2 : SqIt k2 s.heap i2 l2 n2) (q1 : cg k1 s.heap l1 xs) (q2 : cg k2 s.heap l2 ys) (hx : xs[n1]? = some x) (hy : ys[n2]? = some y)
    (hQ : ∀ h', IsZip h' z TI TO (rawInt s.heap.objs.size) → IsPair h' TO x y → SqIt k1 h' i1 l1 (n1 + 1) → SqIt k2 h' i2 l2 (n2 + 1) → IsPair h' s.heap.objs.size x y →
      (∀ c o, c ≠ z → c ≠ TO → c ≠ i1 → c ≠ i2 → s.heap.get? c = some o → h'.get? c = some o) → Q (.ref s.heap.objs.size) { s with heap := h' }) :
    wpAny (model prog w) A (Builtin.«zip.__next__» ⟨[.ref z], []⟩) (fun fin s' => ∃ v, fin = .done (.ret v) ∧ Q v s') E s := by
  refine wpAny_bind (m := field (.ref z) 2) (wpAny_field hz rfl (x := .bool false) rfl (wpAny_bind (m := field (.ref z) 3) (wpAny_field hz rfl (x := .ref TI) rfl (wpAny_bind (m := seqItems? (.ref TI)) (wpAny_seqItems gr rfl ?_)))))
  refine wpAny_bind (m := ownedTupleIsFree (.ref z)) ?_
  unfold ownedTupleIsFree
  refine wpAny_bind (m := field (.ref z) 0) (wpAny_field hz rfl (x := .none) rfl (wpAny_pure ?_))
  rw [if_pos rfl]
  refine wpAny_bind (wpAny_rule (wpAny_bind (m := field (.ref z) 4) (wpAny_field hz rfl (x := .ref TO) rfl (wpAny_bind (m := setField (.ref z) 0 .ellipsis) (wpAny_setField_rec hz (by simp) fun g1 (z1 : IsZip g1 z TI TO .ellipsis) fA => ?_)))))
  refine wpAny_bind ?_
  simp only [List.zipIdx_cons, List.zipIdx_nil, List.forIn_cons, List.forIn_nil]
  refine wpAny_bind (wpAny_bind (wpAny_onRaise ?_))
  refine wpAny_bind (m := nextOf (.ref i1)) (mI (h1.at fun o e => fA.extBut _ o D.i1z e) (q1.at fun o e => fA.extBut _ o D.l1z e) hx fun g2 Cy ee => wpAny_pure ?_)
  have o2 : IsPair g2 TO a b := ee.extBut _ _ D.TOi1 (fA.extBut _ _ D.TOz gK)
  refine wpAny_bind (wpAny_seqItems o2 rfl (wpAny_bind (wpAny_updateSeq_pair o2 fun g3 (o3 : IsPair g3 TO x b) jy => wpAny_bind (wpAny_letGo (wpAny_pure ?_)))))
  refine wpAny_bind (wpAny_bind (wpAny_onRaise ?_))
  refine wpAny_bind (m := nextOf (.ref i2)) (mI (h2.at fun o e => jy.extBut _ o D.TOi2.symm (ee.extBut _ o D.i12.symm (fA.extBut _ o D.i2z e))) (q2.at fun o e => jy.extBut _ o D.l2TO (ee.extBut _ o D.l2i1 (fA.extBut _ o D.l2z e))) hy fun g4 Nf yB => wpAny_pure ?_)
  have o4 : IsPair g4 TO x b := yB.extBut _ _ D.TOi2 o3
  refine wpAny_bind (wpAny_seqItems o4 rfl (wpAny_bind (wpAny_updateSeq_pair o4 fun g5 (o5 : IsPair g5 TO x y) sQ => wpAny_bind (wpAny_letGo (wpAny_pure (wpAny_pure ?_))))))
  refine wpAny_bind (wpAny_seqItems o5 rfl (wpAny_bind (wpAny_newTuple ?_)))
  have sz : g5.objs.size = s.heap.objs.size := by rw [sQ.1, yB.1, jy.1, ee.1, fA.1]
  have z5 : IsZip g5 z TI TO .ellipsis := sQ.extBut _ _ D.TOz.symm (yB.extBut _ _ D.i2z.symm (jy.extBut _ _ D.TOz.symm (ee.extBut _ _ D.i1z.symm z1)))
  have k5 : ∀ c o, c ≠ z → c ≠ TO → c ≠ i1 → c ≠ i2 → s.heap.get? c = some o → g5.get? c = some o := fun c o c1 c2 c3 c4 e => sQ.extBut _ _ c2 (yB.extBut _ _ c4 (jy.extBut _ _ c2 (ee.extBut _ _ c3 (fA.extBut _ _ c1 e))))
  have zl : z < g5.objs.size := Heap.lt_size z5
  refine wpAny_bind (m := ownedTupleHandOut (.ref z) _) ?_
  unfold ownedTupleHandOut
  have z6 : IsZip (g5.push { cls := .type "tuple", data := .seq #[x, y] }) z TI TO .ellipsis := Heap.get?_push_of_some _ z5
  refine wpAny_bind (wpAny_setField_rec z6 (by simp) fun g7 (z7 : IsZip g7 z TI TO (rawInt g5.objs.size)) Cv => ?_)
  refine wpAny_setField_rec z7 (by simp) fun g8 (z8 : IsZip g8 z TI TO (rawInt g5.objs.size)) Kz => ?_
  have up : ∀ c o, c ≠ z → g5.get? c = some o → g8.get? c = some o := fun c o c1 e => Kz.extBut _ _ c1 (Cv.extBut _ _ c1 (Heap.get?_push_of_some _ e))
  have t8 : IsPair g8 g5.objs.size x y := Kz.extBut _ _ (Nat.ne_of_gt zl) (Cv.extBut _ _ (Nat.ne_of_gt zl) (Heap.get?_push_size _ rfl))
  rw [sz] at z8 t8
  refine wpAny_pure ⟨_, rfl, ?_⟩
  show Q (.ref g5.objs.size) _
  rw [sz]
  exact hQ g8 z8 (up _ _ D.TOz o5) (Cy.at fun o e => up _ o D.i1z (sQ.extBut _ o D.TOi1.symm (yB.extBut _ o D.i12 (jy.extBut _ o D.TOi1.symm e)))) (Nf.at fun o e => up _ o D.i2z (sQ.extBut _ o D.TOi2.symm e)) t8
    fun c o c1 c2 c3 c4 e => up c o c1 (k5 c o c1 c2 c3 c4 e)
theorem DP {Q : Fin → Shared → Prop} (hh : A.handled = none) (D : ZipApart z TI TO i1 i2 l1 l2) (hz : IsZip s.heap z TI TO .none) (gr : IsPair s.heap TI (.ref i1) (.ref i2)) (gK : IsPair s.heap TO a b)
    (h1 : SqIt k1 s.heap i1 l1 n1) (h2 : SqIt k2 s.heap i2 l2 n2) (q1 : cg k1 s.heap l1 xs) (q2 : cg k2 s.heap l2 ys) (sT : xs[n1]? = none ∨ ys[n2]? = none)
    (hE : ∀ h' e, (∀ c o, c ≠ z → c ≠ TO → c ≠ i1 → c ≠ i2 → s.heap.get? c = some o → h'.get? c = some o) → (∃ o, h'.get? e = some o ∧ o.cls = .type "StopIteration") → E (.ref e) { s with heap := h' }) :
    wpAny (model prog w) A (Builtin.«zip.__next__» ⟨[.ref z], []⟩) Q E s := by
  refine wpAny_bind (m := field (.ref z) 2) (wpAny_field hz rfl (x := .bool false) rfl (wpAny_bind (m := field (.ref z) 3) (wpAny_field hz rfl (x := .ref TI) rfl (wpAny_bind (m := seqItems? (.ref TI)) (wpAny_seqItems gr rfl ?_)))))
  refine wpAny_bind (m := ownedTupleIsFree (.ref z)) ?_
  unfold ownedTupleIsFree
  refine wpAny_bind (m := field (.ref z) 0) (wpAny_field hz rfl (x := .none) rfl (wpAny_pure ?_))
  rw [if_pos rfl]
  refine wpAny_bind (wpAny_rule (wpAny_bind (m := field (.ref z) 4) (wpAny_field hz rfl (x := .ref TO) rfl (wpAny_bind (m := setField (.ref z) 0 .ellipsis) (wpAny_setField_rec hz (by simp) fun g1 (z1 : IsZip g1 z TI TO .ellipsis) fA => ?_)))))
  refine wpAny_bind ?_
  simp only [List.zipIdx_cons, List.zipIdx_nil, List.forIn_cons, List.forIn_nil]
  refine wpAny_bind (wpAny_bind (wpAny_onRaise ?_))
  have stop : ∀ (g : Heap) (e : Addr), IsZip g z TI TO .ellipsis → (∃ o, g.get? e = some o ∧ o.cls = .type "StopIteration") → (∀ c o, c ≠ z → c ≠ TO → c ≠ i1 → c ≠ i2 → s.heap.get? c = some o → g.get? c = some o) →
      wpAny (model prog w) A (setField (.ref z) 0 .none) (fun _ s' => E (.ref e) s') E { s with heap := g } := fun g e zg ⟨o, ho, hc⟩ kk => by
    have ne : e ≠ z := fun q => by subst q; rw [zg] at ho; cases ho; simp at hc
    exact wpAny_setField_rec zg (by simp) fun g' _ KA => hE g' e (fun c o c1 c2 c3 c4 q => KA.extBut _ _ c1 (kk c o c1 c2 c3 c4 q)) ⟨o, KA.extBut _ _ ne ho, hc⟩
  cases hx : xs[n1]? with
  | none =>
    refine wpAny_bind (m := nextOf (.ref i1)) (pQ hh (h1.at fun o e => fA.extBut _ o D.i1z e) (q1.at fun o e => fA.extBut _ o D.l1z e) hx fun g2 e eb he => ?_)
    exact stop g2 e (eb _ _ D.i1z.symm z1) he fun c o c1 c2 c3 c4 q => eb _ _ c3 (fA.extBut _ _ c1 q)
  | some x =>
    have hy : ys[n2]? = none := sT.elim (fun q => by rw [hx] at q; cases q) id
    refine wpAny_bind (m := nextOf (.ref i1)) (mI (h1.at fun o e => fA.extBut _ o D.i1z e) (q1.at fun o e => fA.extBut _ o D.l1z e) hx fun g2 Cy ee => wpAny_pure ?_)
    have o2 : IsPair g2 TO a b := ee.extBut _ _ D.TOi1 (fA.extBut _ _ D.TOz gK)
    refine wpAny_bind (wpAny_seqItems o2 rfl (wpAny_bind (wpAny_updateSeq_pair o2 fun g3 (o3 : IsPair g3 TO x b) jy => wpAny_bind (wpAny_letGo (wpAny_pure ?_)))))
    refine wpAny_bind (wpAny_bind (wpAny_onRaise ?_))
    refine wpAny_bind (m := nextOf (.ref i2)) (pQ hh (h2.at fun o e => jy.extBut _ o D.TOi2.symm (ee.extBut _ o D.i12.symm (fA.extBut _ o D.i2z e))) (q2.at fun o e => jy.extBut _ o D.l2TO (ee.extBut _ o D.l2i1 (fA.extBut _ o D.l2z e))) hy fun g4 e eb he => ?_)
    exact stop g4 e (eb _ _ D.i2z.symm (jy.extBut _ _ D.TOz.symm (ee.extBut _ _ D.i1z.symm z1))) he fun c o c1 c2 c3 c4 q => eb _ _ c4 (jy.extBut _ _ c2 (ee.extBut _ _ c3 (fA.extBut _ _ c1 q)))
theorem AU {Q : Option Value → Shared → Prop} (D : ZipApart z TI TO i1 i2 l1 l2) (hz : IsZip s.heap z TI TO .none) (gr : IsPair s.heap TI (.ref i1) (.ref i2)) (gK : IsPair s.heap TO a b)
    (h1 : SqIt k1 s.heap i1 l1 n1) (h2 : SqIt k2 s.heap i2 l2 n2) (q1 : cg k1 s.heap l1 xs) (q2 : cg k2 s.heap l2 ys) (hx : xs[n1]? = some x) (hy : ys[n2]? = some y)
    (hQ : ∀ h', IsZip h' z TI TO (rawInt s.heap.objs.size) → IsPair h' TO x y → SqIt k1 h' i1 l1 (n1 + 1) → SqIt k2 h' i2 l2 (n2 + 1) → IsPair h' s.heap.objs.size x y →
      (∀ c o, c ≠ z → c ≠ TO → c ≠ i1 → c ≠ i2 → s.heap.get? c = some o → h'.get? c = some o) → Q (some (.ref s.heap.objs.size)) { s with heap := h' }) : wpAny (model prog w) A (pyNext (.ref z)) Q E s := by
  have hT : s.TypeIs (.ref z) "zip" := ⟨_, hz, rfl⟩
  have sl := F.slot_zip_next
  unfold pyNext
  exact wpAny_bind (wpAny_attempt (wpAny_callSpecial?_slot (name := Str.ofString "__next__") hT sl (wpAny_call_entry sl hT F.entry_zip_next (AR D hz gr gK h1 h2 q1 q2 hx hy fun h' b1 b2 b3 b4 b5 b6 => wpAny_pure (hQ h' b1 b2 b3 b4 b5 b6)) (F.args_zip_next_1 _))))
theorem AV {Q : Option Value → Shared → Prop} (hh : A.handled = none) (D : ZipApart z TI TO i1 i2 l1 l2) (hz : IsZip s.heap z TI TO .none) (gr : IsPair s.heap TI (.ref i1) (.ref i2)) (gK : IsPair s.heap TO a b)
    (h1 : SqIt k1 s.heap i1 l1 n1) (h2 : SqIt k2 s.heap i2 l2 n2) (q1 : cg k1 s.heap l1 xs) (q2 : cg k2 s.heap l2 ys) (sT : xs[n1]? = none ∨ ys[n2]? = none)
    (hQ : ∀ h', (∀ c o, c ≠ z → c ≠ TO → c ≠ i1 → c ≠ i2 → s.heap.get? c = some o → h'.get? c = some o) → Q none { s with heap := h' }) : wpAny (model prog w) A (pyNext (.ref z)) Q E s := by
  have hT : s.TypeIs (.ref z) "zip" := ⟨_, hz, rfl⟩
  have sl := F.slot_zip_next
  unfold pyNext
  refine wpAny_bind (wpAny_attempt (wpAny_callSpecial?_slot (name := Str.ofString "__next__") hT sl (wpAny_call_entry sl hT F.entry_zip_next (DP hh D hz gr gK h1 h2 q1 q2 sT fun h' e kk ⟨o, ho, hc⟩ => ?_) (F.args_zip_next_1 _))))
  exact wpAny_bind (wpAny_isInstance (T := "StopIteration") (b := true) ⟨o, ho, hc⟩ isSubtype_stop (wpAny_pure (hQ _ kk)))
end
noncomputable def Cz (k1 k2 : Bool) (K : PySem.W.Frag) (a1 a2 : Addr) : It :=
  ⟨fun i H => ∃ xs ys x y, Sq k1 K H a1 xs ∧ Sq k2 K H a2 ys ∧ xs[i]? = some x ∧ ys[i]? = some y, fun i H v H' => ∃ t x y, H t = none ∧ v = .ref t ∧ H' = upd H t (.tup [x, y]) ∧ (∀ xs, Sq k1 K H a1 xs → xs[i]? = some x) ∧ ∀ ys, Sq k2 K H a2 ys → ys[i]? = some y,
    fun i H => ∃ xs ys, Sq k1 K H a1 xs ∧ Sq k2 K H a2 ys ∧ (xs.length ≤ i ∨ ys.length ≤ i)⟩
theorem AW {P : Program} {w : World} {K : PySem.W.Frag} {elts : List Expr} {x1 : Nat} {pos : Pos} (k1 k2 : Bool) (z TI TO i1 i2 l1 l2 : Addr) (D : ZipApart z TI TO i1 i2 l1 l2) :
    Turn P w K (.Tuple elts x1 pos) (Cz k1 k2 K l1 l2) [z, TI, TO, i1, i2] z (fun i h => IsZip h z TI TO .none ∧ IsPair h TI (.ref i1) (.ref i2) ∧ (∃ a b, IsPair h TO a b) ∧ SqIt k1 h i1 l1 i ∧ SqIt k2 h i2 l2 i) where
  mem := by simp
  obj := fun i h st b hb => by
    obtain ⟨hz, gr, ⟨a, c, gK⟩, h1, h2⟩ := st
    simp only [List.mem_cons, List.not_mem_nil, or_false] at hb
    rcases hb with rfl | rfl | rfl | rfl | rfl
    · exact ⟨_, hz, fun v q => nomatch q⟩
    · exact ⟨_, gr, fun v q => nomatch q⟩
    · exact ⟨_, gK, fun v q => nomatch q⟩
    · obtain ⟨o, ho, vs, hd⟩ := h1.obj
      exact ⟨o, ho, fun v q => by rw [hd] at q; cases q⟩
    · obtain ⟨o, ho, vs, hd⟩ := h2.obj
      exact ⟨o, ho, fun v q => by rw [hd] at q; cases q⟩
  keep := fun i h h' st q => by
    obtain ⟨hz, gr, ⟨a, c, gK⟩, h1, h2⟩ := st
    exact ⟨q z (by simp) _ hz, q TI (by simp) _ gr, ⟨a, c, q TO (by simp) _ gK⟩, h1.at fun o ho => q i1 (by simp) o ho, h2.at fun o ho => q i2 (by simp) o ho⟩
  item := by
    intro X hP hw hK hc i pins s σ H E I hf st hg
    subst hP hw hK
    obtain ⟨hz, gr, ⟨a, c, gK⟩, h1, h2⟩ := st
    obtain ⟨xs, ys, x, y, vm, vn, hx, hy⟩ := hg
    obtain ⟨GK, CA, p1⟩ := I.sq vm
    obtain ⟨u1, yn, Ng⟩ := CA.get hx
    obtain ⟨cQ, iE, p2⟩ := I.sq vn
    obtain ⟨u2, Nh, Ni⟩ := iE.get hy
    refine AU D hz gr gK h1 h2 p1 p2 (x := u1) (y := u2) (by simpa using yn) (by simpa using Nh) fun g1 zo Nj yu Cy t1 kk => ?_
    refine ⟨_, rfl, wpAny_letOwnedTupleGo_zip zo fun g2 z2 (ee : Heap.SameBut z g1 g2) => ?_⟩
    have zl : z < s.heap.objs.size := Heap.lt_size hz
    have I2 : Inv X pins σ H { s with heap := g2 } := I.mJ (t' := s.toks) (ch := [z, TO, i1, i2]) (fun b o hb q => by
      simp only [List.mem_cons, List.not_mem_nil, or_false, not_or] at hb
      exact (ee.2 b hb.1).trans (kk b o hb.1 hb.2.1 hb.2.2.1 hb.2.2.2 q)) fun b hb => hf b (by simp at hb ⊢; rcases hb with h | h | h | h <;> simp [h])
    have hn : H s.heap.objs.size = none := I.hok.fresh (Nat.le_refl _)
    refine ⟨.ref s.heap.objs.size, _, Inv.pair (s := s) (tk0 := s.toks) (tk := s.toks) I (Nat.le_refl _) I2 ((ee.2 _ (Nat.ne_of_gt zl)).trans t1) Ng Ni, rfl, ⟨_, x, y, hn, rfl, rfl, fun zs hs => by rw [I.sS hs vm]; exact hx, fun zs hs => by rw [I.sS hs vn]; exact hy⟩,
      ⟨z2, (ee.2 _ D.TIz).trans (kk _ _ D.TIz D.TITO D.TIi1 D.TIi2 gr), ⟨u1, u2, (ee.2 _ D.TOz).trans Nj⟩, yu.at fun o q => (ee.2 _ D.i1z).trans q, Cy.at fun o q => (ee.2 _ D.i2z).trans q⟩, fun b hb => ?_⟩
    have l : b ≠ s.heap.objs.size := by
      have ex : ∃ o, s.heap.get? b = some o := by
        simp only [List.mem_cons, List.not_mem_nil, or_false] at hb
        rcases hb with rfl | rfl | rfl | rfl | rfl
        · exact ⟨_, hz⟩
        · exact ⟨_, gr⟩
        · exact ⟨_, gK⟩
        · obtain ⟨o, ho, _⟩ := h1.obj
          exact ⟨o, ho⟩
        · obtain ⟨o, ho, _⟩ := h2.obj
          exact ⟨o, ho⟩
      obtain ⟨o, ho⟩ := ex
      exact Nat.ne_of_lt (Heap.lt_size ho)
    rw [ai l]
    exact (hf b hb).1
  done := by
    intro X hP hw hK hc i pins s σ H E I hf st hg
    subst hP hw hK
    obtain ⟨hz, gr, ⟨a, c, gK⟩, h1, h2⟩ := st
    obtain ⟨xs, ys, vm, vn, hx⟩ := hg
    obtain ⟨GK, CA, p1⟩ := I.sq vm
    obtain ⟨cQ, iE, p2⟩ := I.sq vn
    have nh := CA.length
    have ju := iE.length
    exact AV (I.ok.hd hc) D hz gr gK h1 h2 p1 p2 (by rcases hx with h | h; exact .inl (by simp; omega); exact .inr (by simp; omega)) fun g1 kk => ⟨rfl, I.mJ (t' := s.toks) (ch := [z, TO, i1, i2]) (fun b o hb q => by
      simp only [List.mem_cons, List.not_mem_nil, or_false, not_or] at hb
      exact kk b o hb.1 hb.2.1 hb.2.2.1 hb.2.2.2 q) fun b hb => hf b (by simp at hb ⊢; rcases hb with h | h | h | h <;> simp [h])⟩
  self := fun _ _ _ _ _ st h => wpAny_pyIter_zip st.1 h
noncomputable abbrev qP (k : Bool) (a : Addr) : Obj := { cls := .type (if k = true then "list_iterator" else "tuple_iterator"), data := .fields #[.ref a, .int 0 0] }
theorem qQ {prog : Program} {w : World} {A : Around} {E : Value → Shared → Prop} {s : Shared} {k : Bool} {a : Addr} {items : Array Value} {Q : Value → Shared → Prop} (h : cg k s.heap a items) (hQ : Q (.ref s.heap.objs.size) { s with heap := s.heap.push (qP k a) }) :
    wpAny (model prog w) A (pyIter (.ref a)) Q E s := by
  cases k with
  | true => exact wpAny_pyIter_list h hQ
  | false => exact wpAny_pyIter_tuple h hQ
theorem yC {k : Bool} {a it : Addr} {h : Heap} (e : h.get? it = some (qP k a)) : SqIt k h it a 0 := by
  cases k with
  | true => exact ⟨_, e, rfl, rfl⟩
  | false => exact ⟨_, e, rfl, rfl⟩
noncomputable abbrev CB (k1 k2 : Bool) (h : Heap) (a1 a2 : Addr) : Heap := (h.push (qP k1 a1)).push (qP k2 a2)
noncomputable abbrev CC (k1 k2 : Bool) (h : Heap) (a1 a2 : Addr) : Heap := (CB k1 k2 h a1 a2).push { cls := .type "tuple", data := .seq #[.ref h.objs.size, .ref (h.push (qP k1 a1)).objs.size] }
noncomputable abbrev CD (k1 k2 : Bool) (h : Heap) (a1 a2 : Addr) : Heap := (CC k1 k2 h a1 a2).push { cls := .type "tuple", data := .seq #[.none, .none] }
noncomputable abbrev vo (k1 k2 : Bool) (h : Heap) (a1 a2 : Addr) : Heap := (CD k1 k2 h a1 a2).push { cls := .type "zip", data := .fields #[.none, .bool false, .bool false, .ref (CB k1 k2 h a1 a2).objs.size, .ref (CC k1 k2 h a1 a2).objs.size] }
theorem GL (k1 k2 : Bool) (a1 a2 : Addr) (xs ys : Array Value) :
    Meets (Builtin.«zip.__new__» ⟨[.type "zip", .ref a1, .ref a2], []⟩) (fun _ R s => cg k1 s.heap a1 xs ∧ cg k2 s.heap a2 ys ∧ R (.ok (.ret (.ref (CD k1 k2 s.heap a1 a2).objs.size))) { s with heap := vo k1 k2 s.heap a1 a2 }) :=
  .of_wp fun prog w A R s h => by
    obtain ⟨hp, g, d, tk, os⟩ := s
    obtain ⟨q1, q2, h⟩ := h
    have Ma := sub_zip
    have Q1 : cg k1 (Shared.heap ⟨hp, g, d, tk, os⟩) a1 xs := q1
    have Q2 : cg k2 (Shared.heap ⟨hp.push (qP k1 a1), g, d, tk, os⟩) a2 ys := cg.at (h := hp) q2 fun o e => Heap.get?_push_of_some _ e
    wp_walk using qQ Q1, qQ Q2
    exact ⟨_, rfl, h⟩
section
variable {prog : Program} {w : World} {A : Around} {E : Value → Shared → Prop} {s : Shared} {k1 k2 : Bool} {a1 a2 : Addr} {xs ys : Array Value}
theorem DQ {Q : Value → Shared → Prop} (q1 : cg k1 s.heap a1 xs) (q2 : cg k2 s.heap a2 ys)
    (h : ∀ h', IsZip h' (s.heap.objs.size + 4) (s.heap.objs.size + 2) (s.heap.objs.size + 3) .none → IsPair h' (s.heap.objs.size + 2) (.ref s.heap.objs.size) (.ref (s.heap.objs.size + 1)) → IsPair h' (s.heap.objs.size + 3) .none .none →
      SqIt k1 h' s.heap.objs.size a1 0 → SqIt k2 h' (s.heap.objs.size + 1) a2 0 → (∀ c o, s.heap.get? c = some o → h'.get? c = some o) → Q (.ref (s.heap.objs.size + 4)) { s with heap := h' }) :
    wpAny (model prog w) A (call (.type "zip") [.ref a1, .ref a2]) Q E s := by
  refine callType_new F.called_zip (by decide) (F.typeCall_zip_2 _ _) (F.newCall_zip_2 _ _) (fun obj => F.args_object_init_3 obj _ _) F.entry_zip_new (GL k1 k2 a1 a2 xs ys) ⟨q1, q2, ?_⟩
  have p : ∀ {g : Heap} {o o' : Obj} {b : Addr}, g.get? b = some o → (g.push o').get? b = some o := fun e => Heap.get?_push_of_some _ e
  have e1 : (s.heap.push (qP k1 a1)).objs.size = s.heap.objs.size + 1 := Heap.size_push ..
  have e2 : (CB k1 k2 s.heap a1 a2).objs.size = s.heap.objs.size + 2 := by rw [Heap.size_push, e1]
  have e3 : (CC k1 k2 s.heap a1 a2).objs.size = s.heap.objs.size + 3 := by rw [Heap.size_push, e2]
  have e4 : (CD k1 k2 s.heap a1 a2).objs.size = s.heap.objs.size + 4 := by rw [Heap.size_push, e3]
  have g5 : (vo k1 k2 s.heap a1 a2).get? (CD k1 k2 s.heap a1 a2).objs.size = some _ := Heap.get?_push_size _ rfl
  have g4 : (vo k1 k2 s.heap a1 a2).get? (CC k1 k2 s.heap a1 a2).objs.size = some _ := p (Heap.get?_push_size _ rfl)
  have g3 : (vo k1 k2 s.heap a1 a2).get? (CB k1 k2 s.heap a1 a2).objs.size = some _ := p (p (Heap.get?_push_size _ rfl))
  have g2 : (vo k1 k2 s.heap a1 a2).get? (s.heap.push (qP k1 a1)).objs.size = some _ := p (p (p (Heap.get?_push_size _ rfl)))
  have g1 : (vo k1 k2 s.heap a1 a2).get? s.heap.objs.size = some _ := p (p (p (p (Heap.get?_push_size _ rfl))))
  show _ ∧ _
  rw [e2, e3, e4] at g5
  rw [e1, e2] at g3
  rw [e3] at g4
  rw [e1] at g2
  rw [e4]
  exact ⟨⟨_, g5, rfl⟩, h _ g5 g3 g4 (yC g1) (yC g2) fun c o q => p (p (p (p (p q))))⟩
end
section
variable {X : Cx} {l1 l2 : Expr} {t1 t2 : TE} {elts : List Expr} {x1 : Nat} {tp p pos : Pos}
noncomputable def Mb (k1 k2 : Bool) (K : PySem.W.Frag) (t1 t2 : TE) : TI := fun σ H R => t1 σ H fun x H1 => t2 σ H1 fun y H2 => ∃ a1 a2, x = .ref a1 ∧ y = .ref a2 ∧ (∃ xs, Sq k1 K H2 a1 xs) ∧ (∃ ys, Sq k2 K H2 a2 ys) ∧ R (Cz k1 k2 K a1 a2) H2
theorem GN (k1 k2 : Bool) {K : PySem.W.Frag} (hK : X.K = K) (hg : Gl X "zip") (hm : X.mg "zip" = none) (h1 : PE X l1 t1) (h2 : PE X l2 t2) (hs : starEach [l1, l2] X.env = (false, eval l1 X.env) :: starEach [l2] X.env := by rfl) (iV : starEach [l2] X.env = [(false, eval l2 X.env)] := by rfl) :
    PI X (.Tuple elts x1 tp) (.Call (.Name "zip" p) [l1, l2] [] pos) (Mb k1 k2 K t1 t2) := by
  subst hK
  intro pins s σ H R I h
  refine wpAny_Call_Name_kw (fx I hg hm GI ?_)
  refine PyProof.Rows.callWith_type1 ?_ hs (by rw [iV]; rfl)
  rw [hs, iV]
  refine Calls.spliced_cons (thn (h1 pins s σ H _ I h) fun v s1 ⟨x, H1, I1, r1, q1⟩ => Calls.spliced_cons (thn (h2 pins s1 σ H1 _ I1 q1) fun u s2 ⟨y, H2, I2, r2, q2⟩ => Calls.spliced_nil ?_))
  obtain ⟨a1, a2, rfl, rfl, ⟨xs, vm⟩, ⟨ys, vn⟩, q⟩ := q2
  cases (show v = Value.ref a1 from r1)
  cases (show u = Value.ref a2 from r2)
  obtain ⟨GK, CA, KC⟩ := I2.sq vm
  obtain ⟨cQ, iE, KD⟩ := I2.sq vn
  refine DQ KC KD fun h' hz gr gK i1 i2 kk => ?_
  refine wpAny_pyIter_zip hz ?_
  have I3 : Inv X pins σ H2 { s2 with heap := h' } := I2.kept (t' := s2.toks) kk
  have Nk : a1 < s2.heap.objs.size := let ⟨o, n, ho, _⟩ := KC.obj; Heap.lt_size ho
  have Nm : a2 < s2.heap.objs.size := let ⟨o, n, ho, _⟩ := KD.obj; Heap.lt_size ho
  refine ⟨_, [s2.heap.objs.size + 4, s2.heap.objs.size + 2, s2.heap.objs.size + 3, s2.heap.objs.size, s2.heap.objs.size + 1], _, Cz k1 k2 X.K a1 a2, H2, rfl, I3, AW k1 k2 _ _ _ _ _ a1 a2 (zipApart_new Nk Nm), ⟨hz, gr, ⟨_, _, gK⟩, i1, i2⟩, fun b hb => ?_, q⟩
  have ge : s2.heap.objs.size ≤ b := by
    simp only [List.mem_cons, List.not_mem_nil, or_false] at hb
    rcases hb with rfl | rfl | rfl | rfl | rfl
    · exact Nat.le_add_right _ _
    · exact Nat.le_add_right _ _
    · exact Nat.le_add_right _ _
    · exact Nat.le_refl _
    · exact Nat.le_add_right _ _
  exact I2.jP ge (I2.hok.fresh ge)
end
theorem AX {k1 k2 : Bool} {K : PySem.W.Frag} {a1 a2 : Addr} {xs ys : List V} {H : Hp} (h1 : Sq k1 K H a1 xs) (h2 : Sq k2 K H a2 ys) : wo (Cz k1 k2 K a1 a2) (xs.zip ys) H := fun i => by
  refine ⟨fun hi => ?_, fun hi => ?_⟩
  · have c9 := hi
    rw [List.length_zip] at c9
    have i1 : i < xs.length := by omega
    have i2 : i < ys.length := by omega
    refine ⟨⟨xs, ys, xs[i], ys[i], h1, h2, List.getElem?_eq_getElem i1, List.getElem?_eq_getElem i2⟩, fun v H' ⟨t, x, y, n, e1, e2, e3, e4⟩ => ⟨t, (x, y), n, e1, ?_, e2⟩⟩
    rw [List.getElem?_zip_eq_some]
    exact ⟨e3 xs h1, e4 ys h2⟩
  · rw [List.length_zip] at hi
    exact ⟨xs, ys, h1, h2, by omega⟩
end L2
namespace L2
open PySem PySem.Spec PyProof.Rows
section
variable {κ : Type} [DecidableEq κ]
noncomputable def eL (aq : List (κ × V)) (k : κ) : Option V := (aq.find? fun kv => decide (kv.1 = k)).map (·.2)
noncomputable def putK (aq : List (κ × V)) (k : κ) (v : V) : List (κ × V) :=
  if (aq.any fun kv => decide (kv.1 = k)) = true then aq.map (fun kv => if kv.1 = k then (kv.1, v) else kv) else aq ++ [(k, v)]
theorem kj {p : κ × V} {r : List (κ × V)} {k : κ} (e : p.1 = k) : eL (p :: r) k = some p.2 := by simp [eL, List.find?_cons, e]
theorem km {p : κ × V} {r : List (κ × V)} {k : κ} (e : ¬ p.1 = k) : eL (p :: r) k = eL r k := by simp [eL, List.find?_cons, e]
theorem nN (k : κ) : ∀ aq : List (κ × V), (aq.any fun kv => decide (kv.1 = k)) = (eL aq k).isSome
  | [] => rfl
  | p :: r => by
    rw [List.any_cons]
    by_cases e : p.1 = k
    · simp only [kj e, decide_eq_true e, Bool.true_or, Option.isSome_some]
    · rw [km e, decide_eq_false e, Bool.false_or]; exact nN k r
theorem fB (aq : List (κ × V)) (k : κ) (v : V) : (putK aq k v).length ≤ aq.length + 1 := by
  unfold putK
  split
  · rw [List.length_map]; omega
  · rw [List.length_append, List.length_cons, List.length_nil]; omega
theorem gN.lP {o : Option V} {u : Option Value} (r : gN o u) : o.isSome = u.isSome := by
  cases o with
  | none => cases u with
    | none => rfl
    | some _ => exact (show False from r).elim
  | some _ => cases u with
    | none => exact (show False from r).elim
    | some _ => rfl
theorem gN.getD {o : Option V} {u : Option Value} {d : V} {d' : Value} (r : gN o u) (rd : RelV d d') : RelV (o.getD d) (u.getD d') := by
  cases o with
  | none => cases u with
    | none => exact rd
    | some _ => exact (show False from r).elim
  | some _ => cases u with
    | none => exact (show False from r).elim
    | some _ => exact r
theorem KV.val {aq : List (κ × V)} {vs : List (κ × Value)} (r : KV aq vs) (k : κ) : gN (eL aq k) (valueAt vs k) := by
  unfold KV at r
  induction r with
  | nil => exact True.intro
  | @cons p q ps qs h t ih =>
    obtain ⟨h1, h2⟩ := h
    by_cases e : p.1 = k
    · have e' : q.1 = k := h1.symm.trans e
      have b : valueAt (q :: qs) k = some q.2 := by simp [valueAt, List.find?_cons, e']
      rw [kj e, b]; exact h2
    · have e' : ¬ q.1 = k := fun z => e (h1.trans z)
      have b : valueAt (q :: qs) k = valueAt qs k := by simp [valueAt, List.find?_cons, e']
      rw [km e, b]; exact ih
theorem KV.any {aq : List (κ × V)} {vs : List (κ × Value)} (r : KV aq vs) (k : κ) : (aq.any fun kv => decide (kv.1 = k)) = vs.any fun kv => decide (kv.1 = k) := by
  unfold KV at r
  induction r with
  | nil => rfl
  | cons h t ih => rw [List.any_cons, List.any_cons, ih, h.1]
theorem KV.repl {aq : List (κ × V)} {vs : List (κ × Value)} (r : KV aq vs) (k : κ) {y : V} {u : Value} (ry : RelV y u) :
    KV (aq.map fun kv => if kv.1 = k then (kv.1, y) else kv) (vs.map fun kv => if kv.1 = k then (kv.1, u) else kv) := by
  unfold KV at r ⊢
  induction r with
  | nil => exact .nil
  | @cons p q ps qs h t ih =>
    rw [List.map_cons, List.map_cons]
    refine .cons ?_ ih
    obtain ⟨h1, h2⟩ := h
    by_cases e : p.1 = k
    · rw [if_pos e, if_pos (h1.symm.trans e)]; exact ⟨h1, ry⟩
    · rw [if_neg e, if_neg (fun z => e (h1.trans z))]; exact ⟨h1, h2⟩
theorem KV.put {aq : List (κ × V)} {vs : List (κ × Value)} (r : KV aq vs) (k : κ) {y : V} {u : Value} (ry : RelV y u) : KV (putK aq k y) (stored vs k u) := by
  unfold putK stored
  rw [r.any k]
  by_cases e : (vs.any fun kv => decide (kv.1 = k)) = true
  · rw [if_pos e, if_pos e]; exact r.repl k ry
  · rw [if_neg e, if_neg e]; exact Paired.snoc r ⟨rfl, ry⟩
theorem KV.length {aq : List (κ × V)} {vs : List (κ × Value)} (r : KV aq vs) : aq.length = vs.length := Paired.length r
end
theorem kn {P : Program} {w : World} {k : Key} {u : Value} (r : RelV (kV k) u) : (bA P w).is k u = true := by
  cases k with
  | inl i => obtain ⟨t, e⟩ := (show ∃ t, u = Value.int i t from r); subst e; exact uI P w i t
  | inr x => obtain ⟨t, e⟩ := (show ∃ t, u = Value.str x t from r); subst e; exact uJ P w x t
theorem qR {P : Program} {w : World} : ∀ {ks : List Key} {us : List Value}, Vals (ks.map kV) us → ItemsAre (bA P w) ks us
  | [], _, r => by rw [List.map_nil] at r; cases r; exact .nil
  | k :: ks, _, r => by
    rw [List.map_cons] at r
    cases r with
    | cons h t => exact .cons (kn h) (qR t)
noncomputable abbrev KT (H : Hp) : List (List Key × V) → List (List Key × Addr × Value) → Prop := Paired fun p q => p.1 = q.1 ∧ H q.2.1 = some (.tup (p.1.map kV)) ∧ RelV p.2 q.2.2
theorem KT.val {H : Hp} {aq : List (List Key × V)} {xs : List (List Key × Addr × Value)} (r : KT H aq xs) (k : List Key) : gN (eL aq k) ((atKey xs k).map (·.2)) := by
  induction r with
  | nil => exact True.intro
  | @cons p q ps qs h t ih =>
    obtain ⟨h1, _, h2⟩ := h
    by_cases e : p.1 = k
    · have e' : q.1 = k := h1.symm.trans e
      have b : atKey (q :: qs) k = some q.2 := by simp [atKey, List.find?_cons, e']
      rw [kj e, b]; exact h2
    · have e' : ¬ q.1 = k := fun z => e (h1.trans z)
      have b : atKey (q :: qs) k = atKey qs k := by simp [atKey, List.find?_cons, e']
      rw [km e, b]; exact ih
theorem KT.repl {H : Hp} {aq : List (List Key × V)} {xs : List (List Key × Addr × Value)} (r : KT H aq xs) (k : List Key) {y : V} {u : Value} (ry : RelV y u) :
    KT H (aq.map fun kv => if kv.1 = k then (kv.1, y) else kv) (xs.map (putAt k u)) := by
  induction r with
  | nil => exact .nil
  | @cons p q ps qs h t ih =>
    rw [List.map_cons, List.map_cons]
    refine .cons ?_ ih
    obtain ⟨h1, h2, h3⟩ := h
    unfold putAt
    by_cases e : p.1 = k
    · rw [if_pos e, if_pos (h1.symm.trans e)]; exact ⟨h1, h2, ry⟩
    · rw [if_neg e, if_neg (fun z => e (h1.trans z))]; exact ⟨h1, h2, h3⟩
theorem KT.put {H : Hp} {aq : List (List Key × V)} {xs : List (List Key × Addr × Value)} (r : KT H aq xs) (k : List Key) {b : Addr} {y : V} {u : Value} (hb : H b = some (.tup (k.map kV))) (ry : RelV y u) :
    KT H (putK aq k y) (storedH xs k b u) := by
  have e : (aq.any fun kv => decide (kv.1 = k)) = (atKey xs k).isSome := by
    rw [nN, (r.val k).lP, Option.isSome_map]
  unfold putK storedH
  rw [e]
  by_cases q : (atKey xs k).isSome = true
  · rw [if_pos q, if_pos q]; exact r.repl k ry
  · rw [if_neg q, if_neg q]; exact Paired.snoc r ⟨rfl, hb, ry⟩
theorem KT.keeps {H H' : Hp} {aq : List (List Key × V)} {xs : List (List Key × Addr × Value)} (r : KT H aq xs) (ht : ∀ b ys, H b = some (.tup ys) → H' b = some (.tup ys)) : KT H' aq xs :=
  Paired.vU r fun _ _ z => ⟨z.1, ht _ _ z.2.1, z.2.2⟩
section
variable {P : Program} {w : World} {H : Hp} {h : Heap} {a : Addr}
theorem CF {u : HO} (ok : cw P w H h) (e : Rd H a u) : ObjOk P w H h a u := e.ok ok
theorem ko {aq : List (Key × V)} (ok : cw P w H h) (e : Rd H a (.dK aq)) : aq.length ≤ sizeLine ∧ (a == sysModules) = false ∧ ∃ vs, KV aq vs ∧ h.DictOf (bA P w) a vs :=
  show ObjOk P w H h a (.dK aq) from CF ok e
theorem CG {aq : List (Key × V)} (ok : cw P w H h) (e : H a = some (.dK aq)) : aq.length ≤ sizeLine ∧ (a == sysModules) = false ∧ ∃ vs, KV aq vs ∧ h.DictOf (bA P w) a vs := ko ok (.inl e)
theorem gu {ks : List Key} (ok : cw P w H h) (e : H a = some (.tup (ks.map kV))) : (tupleKind (bA P w)).is h ks a := by
  obtain ⟨_, its, r, o, h1, h2, n, h3, _⟩ := (show ObjOk P w H h a (.tup (ks.map kV)) from ok a _ e)
  exact ⟨o, its.toArray, n, h1, h2, h3, by simpa using qR r⟩
theorem kr {aq : List (List Key × V)} (ok : cw P w H h) (e : Rd H a (.dT aq)) : aq.length ≤ sizeLine ∧ (a == sysModules) = false ∧
    ∃ xs, KT H aq xs ∧ h.DictOfH (tupleKind (bA P w)) a xs := by
  obtain ⟨z, y, xs, r, o, es, ep, h1, h2, h3, h4, h5⟩ := (show ObjOk P w H h a (.dT aq) from CF ok e)
  refine ⟨z, y, xs, r, o, es, ep, h1, h2, h3, h4, fun x hx => ?_, h5⟩
  have all : ∀ {l : List (List Key × V)} {m : List (List Key × Addr × Value)}, KT H l m → ∀ x ∈ m, (tupleKind (bA P w)).is h x.1 x.2.1 := by
    intro l m q
    induction q with
    | nil => intro x hx; exact nomatch hx
    | @cons p q ps qs hq t ih =>
      intro x hx
      rcases List.mem_cons.mp hx with e | hx
      · subst e
        exact gu ok (by rw [← hq.1]; exact hq.2.1)
      · exact ih x hx
  exact all r x hx
theorem rQ {aq : List (List Key × V)} (ok : cw P w H h) (e : H a = some (.dT aq)) : aq.length ≤ sizeLine ∧ (a == sysModules) = false ∧
    ∃ xs, KT H aq xs ∧ h.DictOfH (tupleKind (bA P w)) a xs := kr ok (.inl e)
end
noncomputable def jR (H : Hp) (a : Addr) (y : V) (r : Option V) : Prop :=
  (∃ aq k, Rd H a (.dK aq) ∧ y = kV k ∧ r = eL aq k) ∨ ∃ aq k b, Rd H a (.dT aq) ∧ y = .ref b ∧ H b = some (.tup (k.map kV)) ∧ r = eL aq k
noncomputable def wq (H : Hp) (a : Addr) (y v : V) (H' : Hp) : Prop :=
  (∃ aq k, H a = some (.dK aq) ∧ y = kV k ∧ aq.length < sizeLine ∧ H' = upd H a (.dK (putK aq k v))) ∨
  ∃ aq k b, H a = some (.dT aq) ∧ y = .ref b ∧ H b = some (.tup (k.map kV)) ∧ aq.length < sizeLine ∧ H' = upd H a (.dT (putK aq k v))
section
variable {X : Cx} {pins : List (Addr × Obj)} {σ : St} {H : Hp} {s : Shared} {a : Addr} {y v : V} {u r : Value} {o : Option V} {A : Around} {E : Value → Shared → Prop}
theorem Inv.big (I : Inv X pins σ H s) : sysModules < s.heap.objs.size := by
  have h : mainGlobals < s.heap.objs.size := (I.mod.glob.keeps I.bk).lt
  exact Nat.lt_trans (by decide) h
theorem yD {Q : Value → Shared → Prop} (hu : A.units + 1 < cLine) (I : Inv X pins σ H s) (g : jR H a y (some v)) (ry : RelV y u) (h : ∀ w' s', Inv X pins σ H s' → RelV v w' → Q w' s') :
    wpAny (model X.prog X.w) A (getItem (.ref a) u) Q E s := by
  rcases g with ⟨aq, k, e, ey, l⟩ | ⟨aq, k, b, e, ey, eb, l⟩
  · subst ey
    obtain ⟨z, hd, vs, rel, dd⟩ := ko I.hok e
    obtain ⟨w', hw, eW⟩ := gN.some_of (v := v) (o := valueAt vs k) (by rw [l]; exact rel.val k)
    exact wpAny_getItem_of (kn ry) dd.mapOf hw (h w' _ (I.tok _) eW)
  · subst ey
    cases (show u = Value.ref b from ry)
    obtain ⟨z, hd, xs, rel, dd⟩ := kr I.hok e
    obtain ⟨w', hw, eW⟩ := gN.some_of (v := v) (o := (atKey xs k).map (·.2)) (by rw [l]; exact rel.val k)
    obtain ⟨p, hp, Np⟩ := Option.map_eq_some_iff.mp hw
    refine wpAny_getItem_heap (tupleKind_room_in1 hu) (gu I.hok eb) dd hp ?_
    rw [Np]
    exact h w' _ (I.tok _) eW
theorem DR {Q : Value → Shared → Prop} (hu : A.units + 1 < cLine) (I : Inv X pins σ H s) (g : jR H a y o) (ry : RelV y u) (h : ∀ s', Inv X pins σ H s' → Q (.bool (!o.isSome)) s') :
    wpAny (model X.prog X.w) A (compareOp .NotIn u (.ref a)) Q E s := by
  rcases g with ⟨aq, k, e, ey, l⟩ | ⟨aq, k, b, e, ey, eb, l⟩
  · subst ey
    obtain ⟨z, hd, vs, rel, dd⟩ := ko I.hok e
    refine wpAny_notIn_of (kn ry) hd dd.mapOf ?_
    rw [← (rel.val k).lP, ← l]
    exact h _ (I.tok _)
  · subst ey
    cases (show u = Value.ref b from ry)
    obtain ⟨z, hd, xs, rel, dd⟩ := kr I.hok e
    refine wpAny_notIn_heap (tupleKind_room_in1 hu) (gu I.hok eb) hd dd ?_
    have q := (rel.val k).lP
    rw [Option.isSome_map] at q
    rw [← q, ← l]
    exact h _ (I.tok _)
theorem iQ {h' : Heap} {t' : Nat} {ob : HO} (I : Inv X pins σ H s) (mu : xt (H a)) (hs : Heap.SameBut a s.heap h') (he : ∃ q, h'.get? a = some q) (new : ObjOk X.prog X.w (upd H a ob) h' a ob) :
    Inv X pins σ (upd H a ob) { s with heap := h', toks := t' } :=
  I.write (x := a) (e := a) mu (.inl rfl) (fun b q hb z => (hs.2 b hb).trans z) he new
theorem yE {P : Program} {w : World} {H' : Hp} {h' : Heap} {aq : List (Key × V)} {vs : List (Key × Value)} (z : aq.length ≤ sizeLine) (hd : (a == sysModules) = false) (rel : KV aq vs) (dd : h'.DictOf (bA P w) a vs) :
    ObjOk P w H' h' a (.dK aq) := ⟨z, hd, vs, rel, dd⟩
theorem yF {H' : Hp} {Q : Unit → Shared → Prop} (hu : A.units + 1 < cLine) (I : Inv X pins σ H s) (g : wq H a y v H') (ry : RelV y u) (rv : RelV v r) (h : ∀ s', Inv X pins σ H' s' → Q () s') :
    wpAny (model X.prog X.w) A (setItem (.ref a) u r) Q E s := by
  rcases g with ⟨aq, k, e, ey, l, eH⟩ | ⟨aq, k, b, e, ey, eb, l, eH⟩
  · subst ey eH
    obtain ⟨z, hd, vs, rel, dd⟩ := CG I.hok e
    have hz : vs.length ≤ sizeLine := by rw [← rel.length]; exact z
    have hl : (putK aq k v).length ≤ sizeLine := by have := fB aq k v; omega
    refine wpAny_setItem_pairs (hsz := hz) (kn ry) dd fun h' jZ hs => h _ ?_
    have he : ∃ q, h'.get? a = some q := let ⟨q, _, _, hq, _⟩ := jZ; ⟨q, hq⟩
    exact iQ I (by rw [e]; exact True.intro) hs he (yE hl hd (rel.put k rv) jZ)
  · subst ey eH
    cases (show u = Value.ref b from ry)
    obtain ⟨z, hd, xs, rel, dd⟩ := rQ I.hok e
    have hz : xs.length ≤ sizeLine := by rw [← Paired.length rel]; exact z
    have hl : (putK aq k v).length ≤ sizeLine := by have := fB aq k v; omega
    refine wpAny_setItem_heap (hsz := hz) (tupleKind_room_in1 hu) (gu I.hok eb) dd fun h' jZ hs => h _ ?_
    obtain ⟨q, es, ep, hq, h2, h3, h4, _, h5⟩ := jZ
    refine iQ I (by rw [e]; exact True.intro) hs ⟨q, hq⟩ ⟨hl, hd, _, (rel.put k eb rv).keeps fun c ys ec => ?_, q, es, ep, hq, h2, h3, h4, h5⟩
    rw [ai (og ec e (fun z => nomatch z))]
    exact ec
end
noncomputable def AY (i : Expr) : Prop := ∀ ov iv, subscripted i false ov iv = operate [ov, iv] (getItem ov iv)
theorem DS {prog : Program} {w : World} {A : Around} {E : Value → Shared → Prop} {s : Shared} {env : Env} {value slice : Expr} {pos : Pos} {T id : String} {Q : Value → Shared → Prop}
    (hl : typeLookup (.type T) "__getitem__" = pure (some (.builtin id))) (hs : AY slice)
    (h : wpAny (model prog w) A (eval value env) (fun o aE => wpAny (model prog w) A (eval slice env) (fun i jN => jN.TypeIs o T ∧ wpAny (model prog w) A (getItem o i) Q E jN) E aE) E s) :
    wpAny (model prog w) A (eval (.Subscript value slice pos) env) Q E s := by
  refine Subscript_ (wpAny_mono h (fun o aE dn => wpAny_mono dn (fun i jN AZ => ?_) fun _ _ x => x) fun _ _ x => x)
  obtain ⟨hT, AZ⟩ := AZ
  unfold subscriptTail
  refine wpAny_bind ?_
  rw [getitemInPython_of_ne hT.not_modules]
  refine wpAny_bind (wpAny_specialOf hT hl ?_)
  have fin : wpAny (model prog w) A (subscripted slice false o i) (fun r fu => wpAny (model prog w) A (letTemporaryGo value o r >>= fun _ => pure r) Q E fu) E jN := by
    rw [hs o i]
    exact wpAny_operating (wpAny_mono AZ (fun r fu Md => wpAny_bind (wpAny_letTemporaryGo (wpAny_pure Md))) fun _ _ x => x)
  first
    | exact wpAny_pure (wpAny_bind fin)
    | exact wpAny_bind (wpAny_pure (wpAny_bind fin))
    | exact wpAny_bind fin
theorem uN {X : Cx} {pins : List (Addr × Obj)} {σ : St} {H : Hp} {s : Shared} {a : Addr} {y : V} {o : Option V} (I : Inv X pins σ H s) (g : jR H a y o) : s.TypeIs (.ref a) "dict" := by
  rcases g with ⟨aq, k, e, _, _⟩ | ⟨aq, k, b, e, _, _, _⟩
  · obtain ⟨_, _, vs, _, dd⟩ := ko I.hok e
    exact dd.typeIs
  · obtain ⟨_, _, xs, _, dd⟩ := kr I.hok e
    exact dd.typeIs
noncomputable def Jt (td ty : TE) : TE := fun σ H Q => td σ H fun x H1 => ty σ H1 fun y H2 => ∃ a v, x = .ref a ∧ jR H2 a y (some v) ∧ Q v H2
noncomputable def Ju (td ty tv : TE) : TS := fun D σ H => tv σ H fun v H1 => td σ H1 fun x H2 => ty σ H2 fun y H3 => ∃ a H4, x = .ref a ∧ wq H3 a y v H4 ∧ D.nx σ H4
section
variable {X : Cx} {o i e value : Expr} {pos pos' OD : Pos} {td ty tv : TE}
theorem DT (hu : X.A.units + 1 < cLine) (ho : PE X o td) (hi : PE X i ty) (hs : AY i) : PE X (.Subscript o i pos) (Jt td ty) := by
  refine ⟨?_⟩
  intro pins s σ H Q I h
  refine DS PySem.F.slot_dict_getitem.lookup hs (thn (ho pins s σ H _ I h) fun u s1 ⟨x, H1, I1, rx, q1⟩ => thn (hi pins s1 σ H1 _ I1 q1) fun iv s2 ⟨y, H2, I2, ry, a, v, ex, g, q2⟩ => ?_)
  subst ex
  obtain rfl : u = Value.ref a := rx
  exact ⟨uN I2 g, yD hu I2 g ry fun w' s3 I3 eW => ⟨v, H2, I3, eW, q2⟩⟩
theorem DU (hu : X.A.units + 1 < cLine) (ho : PE X o td) (hi : PE X i ty) (hv : PE X value tv) (hs : swapsWith value (some (.Subscript o i pos')) pos.line X.env = pure false) :
    PS X (.Assign [.Subscript o i pos'] value pos) (Ju td ty tv) := by
  refine ⟨?_⟩
  intro pins s σ H D I h
  refine wpAny_Assign_Subscript (thn (hv pins s σ H _ I h) fun r s1 ⟨v, H1, I1, rv, q1⟩ => thn (ho pins s1 σ H1 _ I1 q1) fun u s2 ⟨x, H2, I2, rx, q2⟩ => thn (hi pins s2 σ H2 _ I2 q2) fun iv s3 ⟨y, H3, I3, ry, a, H4, ex, g, q3⟩ => ?_) hs
  subst ex
  obtain rfl : u = Value.ref a := rx
  exact yF hu I3 g ry rv fun s4 I4 => ⟨σ, H4, I4, q3⟩
end
theorem sU {P : Program} {w : World} {H : Hp} (h : Heap) (hb : sysModules < h.objs.size) : ObjOk P w H (h.push { cls := .type "dict", data := .dict #[] }) h.objs.size (.dT []) :=
  ⟨Nat.zero_le _, beq_eq_false_iff_ne.mpr (Ne.symm (Nat.ne_of_lt hb)), [], .nil, _, #[], 0, Heap.get?_push_size _ rfl, ⟨rfl, rfl, rfl⟩, rfl, rfl, List.nodup_nil⟩
noncomputable def GO : TE := fun _ H Q => ∀ p, H p = none → Q (.ref p) (upd H p (.dT []))
section
variable {X : Cx} {pos : Pos}
theorem A0 : PE X (.Dict [] [] pos) GO := ⟨fun pins s σ H Q I h =>
  wpAny_Dict_empty ⟨.ref s.heap.objs.size, _, I.laid (a := s.heap.objs.size) (o := .dT []) (t' := s.toks) (fun _ _ q => Heap.get?_push_of_some _ q) (Nat.le_refl _) (sU s.heap I.big), rfl, h _ (I.hok.fresh (Nat.le_refl _))⟩⟩
end
structure M1 (X : Cx) (o : Expr) (m : Str) (apos : Pos) (e : Expr) (aO : Pos) : Prop where
  base : attributeBase o m X.env (eval o X.env) = eval o X.env
  few : ((backTo aO (starEach [e] X.env)).all (fun x => !x.1) && (backToKw aO (keywordEach [] X.env)).all (fun x => x.1.isSome)
    && decide (([e] : List Expr).length + ([] : List Keyword).length + (if ([] : List Keyword).isEmpty then 0 else 1) < 30)) = true
  line : (apos.endLine == aO.line) = true
  trees : backTo aO (starEach [e] X.env) = [(false, eval e X.env)]
structure M2 (X : Cx) (o : Expr) (m : Str) (apos : Pos) (e f : Expr) (aO : Pos) : Prop where
  base : attributeBase o m X.env (eval o X.env) = eval o X.env
  few : ((backTo aO (starEach [e, f] X.env)).all (fun x => !x.1) && (backToKw aO (keywordEach [] X.env)).all (fun x => x.1.isSome)
    && decide (([e, f] : List Expr).length + ([] : List Keyword).length + (if ([] : List Keyword).isEmpty then 0 else 1) < 30)) = true
  line : (apos.endLine == aO.line) = true
  trees : backTo aO (starEach [e, f] X.env) = [(false, eval e X.env), (false, eval f X.env)]
section
variable {X : Cx} {pins : List (Addr × Obj)} {σ : St} {H : Hp} {s : Shared} {a : Addr} {y d : V} {u r : Value} {o : Option V} {A : Around} {E : Value → Shared → Prop}
theorem GP {Q : Value → Shared → Prop} (hu : A.units + 1 < cLine) (I : Inv X pins σ H s) (g : jR H a y o) (ry : RelV y u) (h : ∀ w' s', Inv X pins σ H s' → RelV (o.getD .au) w' → Q w' s') :
    wpAny (model X.prog X.w) A (call (.builtin "dict.get") [.ref a, u]) Q E s := by
  rcases g with ⟨aq, k, e, ey, l⟩ | ⟨aq, k, b, e, ey, eb, l⟩
  · subst ey
    obtain ⟨z, hd, vs, rel, dd⟩ := ko I.hok e
    refine call_meetsIn PySem.F.slot_dict_get dd.typeIs PySem.F.entry_dict_get (PySem.F.args_dict_get_2 _ _) (meets_dict_get (bA X.prog X.w) a (kn ry) hd) ⟨_, dd.mapOf, h _ _ (I.tok _) ?_⟩
    rw [l]
    exact (rel.val k).getD rfl
  · subst ey
    cases (show u = Value.ref b from ry)
    obtain ⟨z, hd, xs, rel, dd⟩ := kr I.hok e
    refine call_meetsIn PySem.F.slot_dict_get dd.typeIs PySem.F.entry_dict_get (PySem.F.args_dict_get_2 _ _) (meetsH_dict_get (tupleKind (bA X.prog X.w)) a b hd) ⟨tupleKind_room_in1 hu, k, xs, gu I.hok eb, dd, h _ _ (I.tok _) ?_⟩
    rw [l]
    exact (rel.val k).getD rfl
theorem GQ {Q : Value → Shared → Prop} (hu : A.units + 1 < cLine) (I : Inv X pins σ H s) (g : jR H a y o) (ry : RelV y u) (rd : RelV d r) (h : ∀ w' s', Inv X pins σ H s' → RelV (o.getD d) w' → Q w' s') :
    wpAny (model X.prog X.w) A (call (.builtin "dict.get") [.ref a, u, r]) Q E s := by
  rcases g with ⟨aq, k, e, ey, l⟩ | ⟨aq, k, b, e, ey, eb, l⟩
  · subst ey
    obtain ⟨z, hd, vs, rel, dd⟩ := ko I.hok e
    refine call_meetsIn PySem.F.slot_dict_get dd.typeIs PySem.F.entry_dict_get (PySem.F.args_dict_get_3 _ _ _) (meets_dict_get_default (bA X.prog X.w) a (kn ry) hd r) ⟨_, dd.mapOf, h _ _ (I.tok _) ?_⟩
    rw [l]
    exact (rel.val k).getD rd
  · subst ey
    cases (show u = Value.ref b from ry)
    obtain ⟨z, hd, xs, rel, dd⟩ := kr I.hok e
    refine call_meetsIn PySem.F.slot_dict_get dd.typeIs PySem.F.entry_dict_get (PySem.F.args_dict_get_3 _ _ _) (meetsH_dict_get_default (tupleKind (bA X.prog X.w)) a b hd r) ⟨tupleKind_room_in1 hu, k, xs, gu I.hok eb, dd, h _ _ (I.tok _) ?_⟩
    rw [l]
    exact (rel.val k).getD rd
end
inductive Dv where
  | int (i : Int) | bl (b : Bool) | au | str (z : Str) | tup (xs : List Dv) | lst (xs : List Dv) | set (ns : List Int) | ptr (a : Addr) | exc (C : Addr) | bw (ns : List Int) | raw (v : V) | dk (ks : List Key) (ds : List Dv) | dt (ks : List (List Key)) (ds : List Dv) | cJ (f : Addr) (o : Obj) (c : Addr) (oc : Obj) (vs : List V) (ds : List Dv)
inductive Mo where
  | lst (xs : List Dv) | cH | dk (ks : List Key) (ds : List Dv) | dt (ks : List (List Key)) (ds : List Dv)
noncomputable abbrev Mh := Addr → Option Mo
structure da where
  g : List Addr
  l : List (Addr × Str)
instance : Membership Addr da := ⟨fun t a => a ∈ t.g⟩
noncomputable def CH : HO → Bool
  | .cE _ => true
  | .lam _ => true
  | .dK _ => true
  | .dT _ => true
  | _ => false
noncomputable def yG : HO → Bool
  | .cE _ => false
  | _ => true
noncomputable def wt : HO → Bool
  | .dK _ => true
  | .dT _ => true
  | _ => false
theorem Rd.map {H H' : Hp} {a : Addr} {u : HO} (e : Rd H a u) (k : ∀ x, H a = some x → H' a = some x) : Rd H' a u := e.imp (k _) fun ⟨o, h⟩ => ⟨o, k _ h⟩
theorem Rd.GR {H H' : Hp} {a : Addr} {u : HO} (e : Rd H a u) (hu : wt u = true) (k : ∀ x, yG x = true → H a = some x → H' a = some x) : Rd H' a u := e.imp (k _ (by cases u <;> first | rfl | cases hu)) fun ⟨o, h⟩ => ⟨o, k _ rfl h⟩
theorem Rd.there {H : Hp} {a : Addr} {u : HO} (e : Rd H a u) : ∃ x, H a = some x := e.elim (fun h => ⟨_, h⟩) fun ⟨o, h⟩ => ⟨_, h⟩
noncomputable def Tg (o o' : HO) : Prop := (∃ ps jX : Array Value, o = .cE ps ∧ o' = .cE jX ∧ TriplesOk jX.toList) ∨ (∃ ps jX : Array Value, o = .lam ps ∧ o' = .lam jX) ∨ (wt o = true ∧ ∃ ob, o' = .fm ob o)
theorem Tg.trans {a b c : HO} (x : Tg a b) (y : Tg b c) : Tg a c := by
  rcases x with ⟨p, q, rfl, rfl, t⟩ | ⟨p, q, rfl, rfl⟩ | ⟨hd, ob, rfl⟩
  · rcases y with ⟨p2, q2, e, rfl, t2⟩ | ⟨p2, q2, e, _⟩ | ⟨e, _⟩
    · exact .inl ⟨p, q2, rfl, rfl, t2⟩
    · cases e
    · cases e
  · rcases y with ⟨p2, q2, e, _⟩ | ⟨p2, q2, e, rfl⟩ | ⟨e, _⟩
    · cases e
    · exact .inr (.inl ⟨p, q2, rfl, rfl⟩)
    · cases e
  · rcases y with ⟨p2, q2, e, _⟩ | ⟨p2, q2, e, _⟩ | ⟨e, _⟩ <;> cases e
theorem Tg.tab {a b : HO} (x : Tg a b) : CH a = true := by
  rcases x with ⟨p, q, rfl, rfl, _⟩ | ⟨p, q, rfl, rfl⟩ | ⟨hd, ob, rfl⟩
  · rfl
  · rfl
  · cases a <;> first | rfl | cases hd
noncomputable def Mf (H : Hp) (q : Str) (cv : Value) : Prop := ∃ (c : Addr) (oc : Obj) (u : HO) (vs : Array Value) (t : Tok), cv = Value.ref c ∧ H c = some (.fm oc u) ∧ oc.data = .fields vs ∧ vs[1]? = some (Value.str q t)
noncomputable def Lm (H : Hp) (p : Addr × Str) : Prop := ∃ ps : Array Value, H p.1 = some (.lam ps) ∧ TriplesOk ps.toList ∧ ∀ pos cv, codeAmong pos ps.toList = some cv → Mf H p.2 cv
theorem Lm.keep {H H' : Hp} {p : Addr × Str} (h : Lm H p) (k1 : ∀ ps, H p.1 = some (.lam ps) → H' p.1 = some (.lam ps)) (k2 : ∀ c oc u, H c = some (.fm oc u) → H' c = some (.fm oc u)) : Lm H' p := by
  obtain ⟨ps, e, t, c⟩ := h
  refine ⟨ps, k1 _ e, t, fun pos cv q => ?_⟩
  obtain ⟨a, oc, u, vs, tk, e1, e2, r⟩ := c pos cv q
  exact ⟨a, oc, u, vs, tk, e1, k2 _ _ _ e2, r⟩
structure Bz where
  P : Program
  w : World
  K : PySem.W.Frag
  tb : da
  hid : List Addr
noncomputable def Fz (β : Bz) (M : Mh) (a : Addr) : Prop := M a = none ∧ a ∉ β.hid
noncomputable def Kl (K : PySem.W.Frag) (a : Addr) (ns : List Int) : Prop := ∃ (o : Obj) (its : Array Value) (n : Nat), K.lookup a = some o ∧ o.cls = .type "list" ∧ o.dict = none ∧ o.data = .seq its n ∧ its.size ≤ sizeLine ∧ Vals (ns.map V.int) its.toList
inductive Rz (β : Bz) (M : Mh) (H : Hp) : V → Dv → Prop where
  | int (i : Int) : Rz β M H (.int i) (.int i)
  | bl (b : Bool) : Rz β M H (.bl b) (.bl b)
  | au : Rz β M H .au .au
  | str (z : Str) : Rz β M H (.str z) (.str z)
  | tup {a : Addr} {vs : List V} {ds : List Dv} (m : Fz β M a) (e : H a = some (.tup vs)) (hl : vs.length = ds.length) (h : ∀ (i : Nat) (v : V) (d : Dv), vs[i]? = some v → ds[i]? = some d → Rz β M H v d) : Rz β M H (.ref a) (.tup ds)
  | lst {a : Addr} {vs : List V} {ds : List Dv} (m : Fz β M a) (e : H a = some (.lst vs)) (hl : vs.length = ds.length) (h : ∀ (i : Nat) (v : V) (d : Dv), vs[i]? = some v → ds[i]? = some d → Rz β M H v d) : Rz β M H (.ref a) (.lst ds)
  | set {a : Addr} {ns : List Int} (m : Fz β M a) (e : H a = some (L7 β.P β.w a ns)) : Rz β M H (.ref a) (.set ns)
  | ptr {a : Addr} (m : (M a).isSome = true) : Rz β M H (.ref a) (.ptr a)
  | exc {a C : Addr} (m : Fz β M a) (e : H a = some (L9 C a)) : Rz β M H (.ref a) (.exc C)
  | bw {a : Addr} {o : Obj} {ns : List Int} (m : Fz β M a) (e : H a = some (.fm o (.lst (ns.map V.int)))) : Rz β M H (.ref a) (.bw ns)
  | cj {a : Addr} {ns : List Int} (m : Fz β M a) (e : H a = some (.lst (ns.map V.int))) : Rz β M H (.ref a) (.bw ns)
  | ck {a : Addr} {ns : List Int} (e : Kl β.K a ns) : Rz β M H (.ref a) (.bw ns)
  | raw (v : V) : Rz β M H v (.raw v)
  | dk {a : Addr} {ks : List Key} {vs : List V} {ds : List Dv} (m : Fz β M a) (e : Rd H a (.dK (ks.zip vs))) (hk : ks.length = vs.length) (hl : vs.length = ds.length) (h : ∀ (i : Nat) (v : V) (d : Dv), vs[i]? = some v → ds[i]? = some d → Rz β M H v d) : Rz β M H (.ref a) (.dk ks ds)
  | dt {a : Addr} {ks : List (List Key)} {vs : List V} {ds : List Dv} (m : Fz β M a) (e : Rd H a (.dT (ks.zip vs))) (hk : ks.length = vs.length) (hl : vs.length = ds.length) (h : ∀ (i : Nat) (v : V) (d : Dv), vs[i]? = some v → ds[i]? = some d → Rz β M H v d) : Rz β M H (.ref a) (.dt ks ds)
  | cJ {f c : Addr} {o oc : Obj} {u uc : HO} {vs : List V} {ds : List Dv} (m : Fz β M f) (e : H f = some (.fm o u)) (m2 : Fz β M c) (e2 : H c = some (.fm oc uc)) (hl : vs.length = ds.length) (h : ∀ (i : Nat) (v : V) (d : Dv), vs[i]? = some v → ds[i]? = some d → Rz β M H v d) : Rz β M H (.ref f) (.cJ f o c oc vs ds)
structure aI (β : Bz) (M : Mh) (H : Hp) (vs : List V) (ds : List Dv) : Prop where
  len : vs.length = ds.length
  at' : ∀ (i : Nat) (v : V) (d : Dv), vs[i]? = some v → ds[i]? = some d → Rz β M H v d
noncomputable def ip (β : Bz) (M : Mh) (H : Hp) (a : Addr) : Mo → Prop
  | .lst ds => ∃ vs, H a = some (.lst vs) ∧ aI β M H vs ds
  | .cH => Jp H a
  | .dk ks ds => ∃ vs, H a = some (.dK (ks.zip vs)) ∧ ks.length = vs.length ∧ aI β M H vs ds
  | .dt ks ds => ∃ vs, H a = some (.dT (ks.zip vs)) ∧ ks.length = vs.length ∧ aI β M H vs ds
noncomputable def lQ : HO → Bool
  | .lst _ => true
  | .set _ _ => true
  | .dK _ => true
  | .dT _ => true
  | .ext _ => true
  | .cE _ => true
  | _ => false
noncomputable def wu (H : Hp) (a : Addr) : Prop := ∃ o, H a = some o ∧ lQ o = true
theorem wu.upd {H : Hp} {a p : Addr} {o : HO} (h : wu H a) (d : H p = none ∨ lQ o = true) : wu (upd H p o) a := by
  obtain ⟨u, e, n⟩ := h
  by_cases z : a = p
  · subst z
    rcases d with d | d
    · rw [e] at d; cases d
    · exact ⟨o, aM, d⟩
  · exact ⟨u, by rw [ai z]; exact e, n⟩
structure Mz (β : Bz) (M : Mh) (H : Hp) : Prop where
  obj : ∀ a o, M a = some o → ip β M H a o
  tabs : Cp β.tb.g H
  hids : ∀ a ∈ β.hid, wu H a
  apart : ∀ a o, M a = some o → a ∉ β.hid
  lams : ∀ p ∈ β.tb.l, Lm H p
structure Ey (M : Mh) (H : Hp) (M' : Mh) (H' : Hp) : Prop where
  keep : ∀ b o, M b = none → H b = some o → H' b = some o ∨ ∃ o', Tg o o' ∧ H' b = some o'
  dom : ∀ a, (M a).isSome = true → (M' a).isSome = true
  new : ∀ a o, M a = none → H a = some o → M' a = none
structure Ex (β : Bz) (M : Mh) (H : Hp) (M' : Mh) (H' : Hp) : Prop extends Ey M H M' H' where
  mz : Mz β M' H'
section
variable {β : Bz} {M M1 M2 : Mh} {H H1 H2 : Hp}
theorem Ey.refl : Ey M H M H := ⟨fun _ _ _ h => .inl h, fun _ h => h, fun _ _ h _ => h⟩
theorem Ex.refl (m : Mz β M H) : Ex β M H M H := ⟨.refl, m⟩
theorem Ey.trans (x : Ey M H M1 H1) (y : Ey M1 H1 M2 H2) : Ey M H M2 H2 := by
  refine ⟨fun b o hm h => ?_, fun a h => y.dom a (x.dom a h), fun a o hm h => ?_⟩
  · have k9 := x.new b o hm h
    rcases x.keep b o hm h with q | ⟨o1, t, q⟩
    · exact y.keep b o k9 q
    · rcases y.keep b _ k9 q with q2 | ⟨o2, t2, q2⟩
      · exact .inr ⟨o1, t, q2⟩
      · exact .inr ⟨o2, t.trans t2, q2⟩
  · have k9 := x.new a o hm h
    rcases x.keep a o hm h with q | ⟨o1, t, q⟩
    · exact y.new a _ k9 q
    · exact y.new a _ k9 q
theorem Ex.trans (x : Ex β M H M1 H1) (y : Ex β M1 H1 M2 H2) : Ex β M H M2 H2 := ⟨x.toEy.trans y.toEy, y.mz⟩
theorem Ey.get (x : Ey M H M1 H1) {b : Addr} {o : HO} (m : M b = none) (h : H b = some o) (n : CH o = false) : H1 b = some o := by
  rcases x.keep b o m h with q | ⟨o', e, _⟩
  · exact q
  · rw [e.tab] at n; cases n
theorem Ey.rd (x : Ey M H M1 H1) {b : Addr} {u : HO} (m : M b = none) (h : Rd H b u) (hu : wt u = true) : Rd H1 b u := by
  rcases h with h | ⟨o, h⟩
  · rcases x.keep b u m h with q | ⟨o', t, q⟩
    · exact .inl q
    · rcases t with ⟨_, _, rfl, _⟩ | ⟨_, _, rfl, _⟩ | ⟨_, ob, rfl⟩
      · cases hu
      · cases hu
      · exact .inr ⟨ob, q⟩
  · exact .inr ⟨o, x.get m h rfl⟩
theorem Ey.gone (x : Ey M H M1 H1) {b : Addr} (h : H1 b = none) : M b = none → H b = none := fun m => by
  cases e : H b with
  | none => rfl
  | some o =>
    rcases x.keep b o m e with q | ⟨_, _, q⟩ <;> (rw [h] at q; cases q)
theorem Rz.ey (x : Ey M H M1 H1) {v : V} {d : Dv} (h : Rz β M H v d) : Rz β M1 H1 v d := by
  induction h with
  | int i => exact .int i
  | bl b => exact .bl b
  | au => exact .au
  | str z => exact .str z
  | tup m e hl h ih => exact .tup ⟨x.new _ _ m.1 e, m.2⟩ (x.get m.1 e rfl) hl ih
  | lst m e hl h ih => exact .lst ⟨x.new _ _ m.1 e, m.2⟩ (x.get m.1 e rfl) hl ih
  | dk m e hk hl h ih => exact .dk ⟨x.new _ _ m.1 e.there.choose_spec, m.2⟩ (x.rd m.1 e rfl) hk hl ih
  | dt m e hk hl h ih => exact .dt ⟨x.new _ _ m.1 e.there.choose_spec, m.2⟩ (x.rd m.1 e rfl) hk hl ih
  | cJ m e m2 e2 hl h ih => exact .cJ ⟨x.new _ _ m.1 e, m.2⟩ (x.get m.1 e rfl) ⟨x.new _ _ m2.1 e2, m2.2⟩ (x.get m2.1 e2 rfl) hl ih
  | set m e => exact .set ⟨x.new _ _ m.1 e, m.2⟩ (x.get m.1 e rfl)
  | ptr m => exact .ptr (x.dom _ m)
  | exc m e => exact .exc ⟨x.new _ _ m.1 e, m.2⟩ (x.get m.1 e rfl)
  | bw m e => exact .bw ⟨x.new _ _ m.1 e, m.2⟩ (x.get m.1 e rfl)
  | cj m e => exact .cj ⟨x.new _ _ m.1 e, m.2⟩ (x.get m.1 e rfl)
  | ck e => exact .ck e
  | raw v => exact .raw v
theorem Rz.ex (x : Ex β M H M1 H1) {v : V} {d : Dv} (h : Rz β M H v d) : Rz β M1 H1 v d := h.ey x.toEy
theorem aI.ex (x : Ex β M H M1 H1) {vs : List V} {ds : List Dv} (h : aI β M H vs ds) : aI β M1 H1 vs ds := ⟨h.len, fun i v d a b => (h.at' i v d a b).ex x⟩
theorem aI.nil : aI β M H [] [] := ⟨rfl, fun i v d h => by simp at h⟩
theorem aI.cons {v : V} {d : Dv} {vs : List V} {ds : List Dv} (h : Rz β M H v d) (t : aI β M H vs ds) : aI β M H (v :: vs) (d :: ds) := ⟨by simp [t.len], fun i x y a b => by
  cases i with
  | zero => simp at a b; subst a b; exact h
  | succ i => rw [List.getElem?_cons_succ] at a b; exact t.at' i x y a b⟩
theorem aI.head {v : V} {d : Dv} {vs : List V} {ds : List Dv} (h : aI β M H (v :: vs) (d :: ds)) : Rz β M H v d := h.at' 0 v d rfl rfl
theorem aI.tail {v : V} {d : Dv} {vs : List V} {ds : List Dv} (h : aI β M H (v :: vs) (d :: ds)) : aI β M H vs ds := ⟨by simpa using h.len, fun i x y a b => h.at' (i + 1) x y (by rw [List.getElem?_cons_succ]; exact a) (by rw [List.getElem?_cons_succ]; exact b)⟩
theorem aI.append {vs yH : List V} {ds fZ : List Dv} (h : aI β M H vs ds) (t : aI β M H yH fZ) : aI β M H (vs ++ yH) (ds ++ fZ) := ⟨by simp [h.len, t.len], fun i x y a b => by
  rw [List.getElem?_append] at a b
  rw [h.len] at a
  split at b
  · rename_i z
    rw [if_pos z] at a
    exact h.at' i x y a b
  · rename_i z
    rw [if_neg z] at a
    exact t.at' _ x y a b⟩
theorem aI.snoc {v : V} {d : Dv} {vs : List V} {ds : List Dv} (t : aI β M H vs ds) (h : Rz β M H v d) : aI β M H (vs ++ [v]) (ds ++ [d]) := t.append (.cons h .nil)
theorem aI.get {vs : List V} {ds : List Dv} (h : aI β M H vs ds) {i : Nat} {d : Dv} (e : ds[i]? = some d) : ∃ v, vs[i]? = some v ∧ Rz β M H v d := by
  have hi := (List.getElem?_eq_some_iff.mp e).1
  have c9 : i < vs.length := by rw [h.len]; exact hi
  exact ⟨vs[i], List.getElem?_eq_getElem c9, h.at' i _ _ (List.getElem?_eq_getElem c9) e⟩
theorem aI.get' {vs : List V} {ds : List Dv} (h : aI β M H vs ds) {i : Nat} {v : V} (e : vs[i]? = some v) : ∃ d, ds[i]? = some d ∧ Rz β M H v d := by
  have hi := (List.getElem?_eq_some_iff.mp e).1
  have c9 : i < ds.length := by rw [← h.len]; exact hi
  exact ⟨ds[i], List.getElem?_eq_getElem c9, h.at' i _ _ e (List.getElem?_eq_getElem c9)⟩
theorem aI.take {vs : List V} {ds : List Dv} (h : aI β M H vs ds) (n : Nat) : aI β M H (vs.take n) (ds.take n) := ⟨by simp [h.len], fun i x y a b => by
  rw [List.getElem?_take] at a b
  split at a
  · rename_i z; rw [if_pos z] at b; exact h.at' i x y a b
  · cases a⟩
theorem aI.drop {vs : List V} {ds : List Dv} (h : aI β M H vs ds) (n : Nat) : aI β M H (vs.drop n) (ds.drop n) := ⟨by simp [h.len], fun i x y a b => by
  rw [List.getElem?_drop] at a b
  exact h.at' _ x y a b⟩
theorem aI.set {vs : List V} {ds : List Dv} (h : aI β M H vs ds) (n : Nat) {v : V} {d : Dv} (r : Rz β M H v d) : aI β M H (vs.set n v) (ds.set n d) := ⟨by simp [h.len], fun i x y a b => by
  rw [List.getElem?_set] at a b
  rw [h.len] at a
  split at a
  · rename_i z
    rw [if_pos z] at b
    split at a
    · rename_i z2; rw [if_pos z2] at b; cases a; cases b; exact r
    · cases a
  · rename_i z; rw [if_neg z] at b; exact h.at' i x y a b⟩
theorem oH {a : Addr} {vs : List V} {ds : List Dv} (m : Fz β M a) (e : H a = some (.tup vs)) (h : aI β M H vs ds) : Rz β M H (.ref a) (.tup ds) := .tup m e h.len h.at'
theorem oI {a : Addr} {vs : List V} {ds : List Dv} (m : Fz β M a) (e : H a = some (.lst vs)) (h : aI β M H vs ds) : Rz β M H (.ref a) (.lst ds) := .lst m e h.len h.at'
theorem bX {v : V} {ds : List Dv} (h : Rz β M H v (.tup ds)) : ∃ a vs, v = .ref a ∧ Fz β M a ∧ H a = some (.tup vs) ∧ aI β M H vs ds := by
  cases h with
  | tup m e hl h => exact ⟨_, _, rfl, m, e, hl, h⟩
theorem cT {v : V} {ds : List Dv} (h : Rz β M H v (.lst ds)) : ∃ a vs, v = .ref a ∧ Fz β M a ∧ H a = some (.lst vs) ∧ aI β M H vs ds := by
  cases h with
  | lst m e hl h => exact ⟨_, _, rfl, m, e, hl, h⟩
theorem aN {v : V} {i : Int} (h : Rz β M H v (.int i)) : v = .int i := by cases h; rfl
theorem de {v : V} {b : Bool} (h : Rz β M H v (.bl b)) : v = .bl b := by cases h; rfl
theorem ef {v : V} {z : Str} (h : Rz β M H v (.str z)) : v = .str z := by cases h; rfl
theorem f6 {v : V} (h : Rz β M H v .au) : v = .au := by cases h; rfl
theorem yI {v u : V} (h : Rz β M H v (.raw u)) : v = u := by cases h; rfl
theorem bD {v : V} {a : Addr} (h : Rz β M H v (.ptr a)) : v = .ref a ∧ (M a).isSome = true := by cases h with | ptr m => exact ⟨rfl, m⟩
theorem qS {v : V} {ns : List Int} (h : Rz β M H v (.bw ns)) : ∃ a, v = .ref a ∧ bH β.K H a (ns.map V.int) := by
  cases h with
  | bw m e => exact ⟨_, rfl, .inl (.inr ⟨_, e⟩)⟩
  | cj m e => exact ⟨_, rfl, .inl (.inl e)⟩
  | ck e => exact ⟨_, rfl, .inr e⟩
noncomputable def pR : HO → Bool
  | .lst _ => true
  | .dK _ => true
  | .dT _ => true
  | _ => false
theorem Mz.own (m : Mz β M H) {a : Addr} {o : Mo} (e : M a = some o) : ∃ u, H a = some u ∧ pR u = true := by
  have q := m.obj a o e
  cases o with
  | lst ds => obtain ⟨vs, q, _⟩ := q; exact ⟨_, q, rfl⟩
  | dk ks ds => obtain ⟨vs, q, _⟩ := q; exact ⟨_, q, rfl⟩
  | dt ks ds => obtain ⟨vs, q, _⟩ := q; exact ⟨_, q, rfl⟩
  | cH => obtain ⟨_, _, q, _⟩ := q; exact ⟨_, q, rfl⟩
theorem Mz.lR (m : Mz β M H) {a : Addr} {u : HO} (h : H a = some u) (n : pR u = false) : M a = none := by
  cases e : M a with
  | none => rfl
  | some o => obtain ⟨u', q, w⟩ := m.own e; rw [h] at q; cases q; rw [n] at w; cases w
theorem Mz.Jv (m : Mz β M H) {p : Addr} (hp : p ∈ β.tb) : M p = none := let ⟨_, h, _⟩ := m.tabs p hp; m.lR h rfl
theorem Mz.GU (m : Mz β M H) {p : Addr × Str} (hp : p ∈ β.tb.l) : M p.1 = none := let ⟨_, h, _⟩ := m.lams p hp; m.lR h rfl
theorem Mz.free (m : Mz β M H) {a : Addr} (h : H a = none) : M a = none := by
  cases e : M a with
  | none => rfl
  | some o => obtain ⟨xs, q, _⟩ := m.own e; rw [h] at q; cases q
theorem Mz.fz (m : Mz β M H) {a : Addr} (h : H a = none) : Fz β M a := ⟨m.free h, fun z => by
  obtain ⟨o, e, _⟩ := m.hids a z
  rw [h] at e
  cases e⟩
theorem A1 {p a : Addr} {o : HO} (h : ∃ u, H a = Option.some u) : ∃ u, upd H p o a = Option.some u := by
  unfold upd
  split
  · exact ⟨_, rfl⟩
  · exact h
theorem Ex.lay (m : Mz β M H) {p : Addr} (h : H p = none) (o : HO) : Ex β M H M (upd H p o) := by
  have pre : ∀ b u, H b = some u → upd H p o b = some u := fun b u q => by rw [ai (bh q h)]; exact q
  have rz : ∀ {v : V} {d : Dv}, Rz β M H v d → Rz β M (upd H p o) v d := fun r => by
    induction r with
    | int i => exact .int i
    | bl b => exact .bl b
    | au => exact .au
    | str z => exact .str z
    | tup m e hl h ih => exact .tup m (pre _ _ e) hl ih
    | lst m e hl h ih => exact .lst m (pre _ _ e) hl ih
    | dk m e hk hl h ih => exact .dk m (e.map fun _ h => pre _ _ h) hk hl ih
    | dt m e hk hl h ih => exact .dt m (e.map fun _ h => pre _ _ h) hk hl ih
    | cJ m e m2 e2 hl h ih => exact .cJ m (pre _ _ e) m2 (pre _ _ e2) hl ih
    | set m e => exact .set m (pre _ _ e)
    | ptr m => exact .ptr m
    | exc m e => exact .exc m (pre _ _ e)
    | bw m e => exact .bw m (pre _ _ e)
    | cj m e => exact .cj m (pre _ _ e)
    | ck e => exact .ck e
    | raw v => exact .raw v
  refine ⟨⟨fun b u _ q => .inl (pre b u q), fun _ h => h, fun _ _ h _ => h⟩, fun a u e => ?_, fun q hq => ?_, fun a ha => (m.hids a ha).upd (.inl h), m.apart, fun q hq => (m.lams q hq).keep (fun _ e => pre _ _ e) fun _ _ _ e => pre _ _ e⟩
  · have z := m.obj a u e
    cases u with
    | lst ds => obtain ⟨vs, z, l, r⟩ := z; exact ⟨vs, pre _ _ z, l, fun i v d a b => rz (r i v d a b)⟩
    | dk ks ds => obtain ⟨vs, z, hk, l, r⟩ := z; exact ⟨vs, pre _ _ z, hk, l, fun i v d a b => rz (r i v d a b)⟩
    | dt ks ds => obtain ⟨vs, z, hk, l, r⟩ := z; exact ⟨vs, pre _ _ z, hk, l, fun i v d a b => rz (r i v d a b)⟩
    | cH => obtain ⟨c, n, z, r⟩ := z; exact ⟨c, n, pre _ _ z, r⟩
  · obtain ⟨ps, e, t⟩ := m.tabs q hq
    exact ⟨ps, pre _ _ e, t⟩
theorem Ex.grow (m : Mz β M H) {p : Addr} (hp : p ∈ β.tb) {ps : Array Value} (t : TriplesOk ps.toList) : Ex β M H M (upd H p (.cE ps)) := by
  obtain ⟨Nq, KG, t0⟩ := m.tabs p hp
  have pre : ∀ b u, H b = some u → yG u = true → upd H p (.cE ps) b = some u := fun b u q n => by
    have : b ≠ p := fun z => by subst z; rw [KG] at q; cases q; cases n
    rw [ai this]; exact q
  have rz : ∀ {v : V} {d : Dv}, Rz β M H v d → Rz β M (upd H p (.cE ps)) v d := fun r => by
    induction r with
    | int i => exact .int i
    | bl b => exact .bl b
    | au => exact .au
    | str z => exact .str z
    | tup m e hl h ih => exact .tup m (pre _ _ e rfl) hl ih
    | lst m e hl h ih => exact .lst m (pre _ _ e rfl) hl ih
    | dk m e hk hl h ih => exact .dk m (e.GR rfl fun x hx h => pre _ _ h hx) hk hl ih
    | dt m e hk hl h ih => exact .dt m (e.GR rfl fun x hx h => pre _ _ h hx) hk hl ih
    | cJ m e m2 e2 hl h ih => exact .cJ m (pre _ _ e rfl) m2 (pre _ _ e2 rfl) hl ih
    | set m e => exact .set m (pre _ _ e rfl)
    | ptr m => exact .ptr m
    | exc m e => exact .exc m (pre _ _ e rfl)
    | bw m e => exact .bw m (pre _ _ e rfl)
    | cj m e => exact .cj m (pre _ _ e rfl)
    | ck e => exact .ck e
    | raw v => exact .raw v
  refine ⟨⟨fun b u _ q => ?_, fun _ h => h, fun _ _ h _ => h⟩, fun a u e => ?_, fun q hq => ?_, fun a ha => (m.hids a ha).upd (.inr rfl), m.apart, fun q hq => (m.lams q hq).keep (fun _ e => pre _ _ e rfl) fun _ _ _ e => pre _ _ e rfl⟩
  · by_cases e : b = p
    · subst e
      rw [KG] at q
      cases q
      exact .inr ⟨_, .inl ⟨Nq, ps, rfl, rfl, t⟩, aM⟩
    · exact .inl (by rw [ai e]; exact q)
  · have z := m.obj a u e
    cases u with
    | lst ds => obtain ⟨vs, z, l, r⟩ := z; exact ⟨vs, pre _ _ z rfl, l, fun i v d a b => rz (r i v d a b)⟩
    | dk ks ds => obtain ⟨vs, z, hk, l, r⟩ := z; exact ⟨vs, pre _ _ z rfl, hk, l, fun i v d a b => rz (r i v d a b)⟩
    | dt ks ds => obtain ⟨vs, z, hk, l, r⟩ := z; exact ⟨vs, pre _ _ z rfl, hk, l, fun i v d a b => rz (r i v d a b)⟩
    | cH => obtain ⟨c, n, z, r⟩ := z; exact ⟨c, n, pre _ _ z rfl, r⟩
  · by_cases e : q = p
    · subst e; exact ⟨ps, aM, t⟩
    · obtain ⟨p2, e2, t2⟩ := m.tabs q hq
      exact ⟨p2, by rw [ai e]; exact e2, t2⟩
noncomputable def av (M : Mh) (a : Addr) (o : Mo) : Mh := fun b => if b = a then Option.some o else M b
theorem updM_same {a : Addr} {o : Mo} : av M a o a = Option.some o := by unfold av; rw [if_pos rfl]
theorem ao {a b : Addr} {o : Mo} (h : b ≠ a) : av M a o b = M b := by unfold av; rw [if_neg h]
theorem updM_updM {a : Addr} {o u : Mo} : av (av M a o) a u = av M a u := by funext b; unfold av; split <;> rfl
theorem j0 {p : Addr} {o : Mo} {u : HO} (hp : (M p).isSome = true ∨ H p = none) {v : V} {d : Dv} (h : Rz β M H v d) : Rz β (av M p o) (upd H p u) v d := by
  have ne : ∀ a x, M a = none → H a = Option.some x → a ≠ p := fun a x m e z => by
    subst z
    rcases hp with q | q
    · rw [m] at q; cases q
    · rw [q] at e; cases e
  induction h with
  | int i => exact .int i
  | bl b => exact .bl b
  | au => exact .au
  | str z => exact .str z
  | tup m e hl h ih => have n := ne _ _ m.1 e; exact .tup ⟨by rw [ao n]; exact m.1, m.2⟩ (by rw [ai n]; exact e) hl ih
  | lst m e hl h ih => have n := ne _ _ m.1 e; exact .lst ⟨by rw [ao n]; exact m.1, m.2⟩ (by rw [ai n]; exact e) hl ih
  | dk m e hk hl h ih => have n := ne _ _ m.1 e.there.choose_spec; exact .dk ⟨by rw [ao n]; exact m.1, m.2⟩ (e.map fun _ h => by rw [ai n]; exact h) hk hl ih
  | dt m e hk hl h ih => have n := ne _ _ m.1 e.there.choose_spec; exact .dt ⟨by rw [ao n]; exact m.1, m.2⟩ (e.map fun _ h => by rw [ai n]; exact h) hk hl ih
  | cJ m e m2 e2 hl h ih => have n := ne _ _ m.1 e; have n2 := ne _ _ m2.1 e2; exact .cJ ⟨by rw [ao n]; exact m.1, m.2⟩ (by rw [ai n]; exact e) ⟨by rw [ao n2]; exact m2.1, m2.2⟩ (by rw [ai n2]; exact e2) hl ih
  | set m e => have n := ne _ _ m.1 e; exact .set ⟨by rw [ao n]; exact m.1, m.2⟩ (by rw [ai n]; exact e)
  | ptr m =>
    refine .ptr ?_
    unfold av
    split
    · rfl
    · exact m
  | exc m e => have n := ne _ _ m.1 e; exact .exc ⟨by rw [ao n]; exact m.1, m.2⟩ (by rw [ai n]; exact e)
  | bw m e => have n := ne _ _ m.1 e; exact .bw ⟨by rw [ao n]; exact m.1, m.2⟩ (by rw [ai n]; exact e)
  | cj m e => have n := ne _ _ m.1 e; exact .cj ⟨by rw [ao n]; exact m.1, m.2⟩ (by rw [ai n]; exact e)
  | ck e => exact .ck e
  | raw v => exact .raw v
theorem ip.upd {p : Addr} {o' : Mo} {u : HO} (hp : (M p).isSome = true ∨ H p = none) {a : Addr} {o : Mo} (ha : a ≠ p) (z : ip β M H a o) : ip β (av M p o') (L2.upd H p u) a o := by
  cases o with
  | lst ds => obtain ⟨vs, z, l, r⟩ := z; exact ⟨vs, by rw [ai ha]; exact z, l, fun i v d a b => j0 hp (r i v d a b)⟩
  | dk ks ds => obtain ⟨vs, z, hk, l, r⟩ := z; exact ⟨vs, by rw [ai ha]; exact z, hk, l, fun i v d a b => j0 hp (r i v d a b)⟩
  | dt ks ds => obtain ⟨vs, z, hk, l, r⟩ := z; exact ⟨vs, by rw [ai ha]; exact z, hk, l, fun i v d a b => j0 hp (r i v d a b)⟩
  | cH => obtain ⟨c, n, z, r⟩ := z; exact ⟨c, n, by rw [ai ha]; exact z, r⟩
theorem Ex.pR (m : Mz β M H) {p : Addr} {u : HO} {o' : Mo} (hp : (M p).isSome = true ∨ H p = none) (hu : lQ u = true) (r : ip β (av M p o') (upd H p u) p o') : Ex β M H (av M p o') (upd H p u) := by
  have ne : ∀ a x, M a = none → H a = Option.some x → a ≠ p := fun a x m e z => by
    subst z
    rcases hp with q | q
    · rw [m] at q; cases q
    · rw [q] at e; cases e
  refine ⟨⟨fun b u hm q => .inl ?_, fun a h => ?_, fun a o hm h => ?_⟩, fun a o e => ?_, fun q hq => ?_, fun a ha => (m.hids a ha).upd (.inr hu), fun a o e z => ?_, fun q hq => ?_⟩
  · rw [ai (ne b _ hm q)]; exact q
  · unfold av
    split
    · rfl
    · exact h
  · rw [ao (ne a _ hm h)]; exact hm
  · by_cases ha : a = p
    · subst ha
      rw [updM_same] at e
      cases e
      exact r
    · rw [ao ha] at e
      exact (m.obj a o e).upd hp ha
  · obtain ⟨ps, e, t⟩ := m.tabs q hq
    exact ⟨ps, by rw [ai (ne q _ (m.Jv hq) e)]; exact e, t⟩
  · by_cases ha : a = p
    · subst ha
      rcases hp with h | h
      · cases q : M a with
        | none => rw [q] at h; cases h
        | some u => exact m.apart a u q z
      · obtain ⟨u, hu, _⟩ := m.hids a z
        rw [h] at hu
        cases hu
    · rw [ao ha] at e
      exact m.apart a o e z
  · exact (m.lams q hq).keep (fun _ e => by rw [ai (ne q.1 _ (m.GU hq) e)]; exact e) fun c _ _ e => by rw [ai (ne c _ (m.lR e rfl) e)]; exact e
theorem Ex.own (m : Mz β M H) {p : Addr} {vs : List V} {ds : List Dv} (hp : (M p).isSome = true ∨ H p = none) (r : aI β M H vs ds) : Ex β M H (av M p (.lst ds)) (upd H p (.lst vs)) :=
  Ex.pR m hp rfl ⟨vs, aM, r.len, fun i v d a b => j0 hp (r.at' i v d a b)⟩
theorem Ex.Mg (m : Mz β M H) {p : Addr} {ks : List Key} {vs : List V} {ds : List Dv} (hp : (M p).isSome = true ∨ H p = none) (hk : ks.length = vs.length) (r : aI β M H vs ds) : Ex β M H (av M p (.dk ks ds)) (upd H p (.dK (ks.zip vs))) :=
  Ex.pR m hp rfl ⟨vs, aM, hk, r.len, fun i v d a b => j0 hp (r.at' i v d a b)⟩
theorem Ex.A7 (m : Mz β M H) {p : Addr} {ks : List (List Key)} {vs : List V} {ds : List Dv} (hp : (M p).isSome = true ∨ H p = none) (hk : ks.length = vs.length) (r : aI β M H vs ds) : Ex β M H (av M p (.dt ks ds)) (upd H p (.dT (ks.zip vs))) :=
  Ex.pR m hp rfl ⟨vs, aM, hk, r.len, fun i v d a b => j0 hp (r.at' i v d a b)⟩
noncomputable abbrev Bz.add (β : Bz) (D : Addr) : Bz := { β with hid := D :: β.hid }
theorem Rz.enter {D : Addr} {o : HO} (hD : H D = none) {v : V} {d : Dv} (h : Rz β M H v d) : Rz (β.add D) M (upd H D o) v d := by
  have ne : ∀ a x, Fz β M a → H a = some x → Fz (β.add D) M a := fun a x m e => ⟨m.1, by
    intro z
    rcases List.mem_cons.mp z with z | z
    · subst z; rw [hD] at e; cases e
    · exact m.2 z⟩
  have pre : ∀ a x, H a = some x → upd H D o a = some x := fun a x e => by rw [ai (bh e hD)]; exact e
  induction h with
  | int i => exact .int i
  | bl b => exact .bl b
  | au => exact .au
  | str z => exact .str z
  | tup m e hl h ih => exact .tup (ne _ _ m e) (pre _ _ e) hl ih
  | lst m e hl h ih => exact .lst (ne _ _ m e) (pre _ _ e) hl ih
  | dk m e hk hl h ih => exact .dk (ne _ _ m e.there.choose_spec) (e.map fun _ h => pre _ _ h) hk hl ih
  | dt m e hk hl h ih => exact .dt (ne _ _ m e.there.choose_spec) (e.map fun _ h => pre _ _ h) hk hl ih
  | cJ m e m2 e2 hl h ih => exact .cJ (ne _ _ m e) (pre _ _ e) (ne _ _ m2 e2) (pre _ _ e2) hl ih
  | set m e => exact .set (ne _ _ m e) (pre _ _ e)
  | ptr m => exact .ptr m
  | exc m e => exact .exc (ne _ _ m e) (pre _ _ e)
  | bw m e => exact .bw (ne _ _ m e) (pre _ _ e)
  | cj m e => exact .cj (ne _ _ m e) (pre _ _ e)
  | ck e => exact .ck e
  | raw v => exact .raw v
theorem Rz.sub {cI : Bz} (hP : cI.P = β.P) (hw : cI.w = β.w) (hK : cI.K = β.K) (hs : ∀ a, a ∈ cI.hid → a ∈ β.hid) {v : V} {d : Dv} (h : Rz β M H v d) : Rz cI M H v d := by
  have ne : ∀ a, Fz β M a → Fz cI M a := fun a m => ⟨m.1, fun z => m.2 (hs a z)⟩
  induction h with
  | int i => exact .int i
  | bl b => exact .bl b
  | au => exact .au
  | str z => exact .str z
  | tup m e hl h ih => exact .tup (ne _ m) e hl ih
  | lst m e hl h ih => exact .lst (ne _ m) e hl ih
  | dk m e hk hl h ih => exact .dk (ne _ m) e hk hl ih
  | dt m e hk hl h ih => exact .dt (ne _ m) e hk hl ih
  | cJ m e m2 e2 hl h ih => exact .cJ (ne _ m) e (ne _ m2) e2 hl ih
  | set m e => exact .set (ne _ m) (by rw [hP, hw]; exact e)
  | ptr m => exact .ptr m
  | exc m e => exact .exc (ne _ m) e
  | bw m e => exact .bw (ne _ m) e
  | cj m e => exact .cj (ne _ m) e
  | ck e => exact .ck (by rw [hK]; exact e)
  | raw v => exact .raw v
theorem Mz.sub {cI : Bz} (hP : cI.P = β.P) (hw : cI.w = β.w) (hK : cI.K = β.K) (ht : cI.tb = β.tb) (hs : ∀ a, a ∈ cI.hid → a ∈ β.hid) (m : Mz β M H) : Mz cI M H := ⟨fun a o e => by
  have z := m.obj a o e
  cases o with
  | lst ds => obtain ⟨vs, z, l, r⟩ := z; exact ⟨vs, z, l, fun i v d a b => (r i v d a b).sub hP hw hK hs⟩
  | dk ks ds => obtain ⟨vs, z, hk, l, r⟩ := z; exact ⟨vs, z, hk, l, fun i v d a b => (r i v d a b).sub hP hw hK hs⟩
  | dt ks ds => obtain ⟨vs, z, hk, l, r⟩ := z; exact ⟨vs, z, hk, l, fun i v d a b => (r i v d a b).sub hP hw hK hs⟩
  | cH => exact z, by rw [ht]; exact m.tabs, fun a ha => m.hids a (hs a ha), fun a o e z => m.apart a o e (hs a z), by rw [ht]; exact m.lams⟩
theorem Mz.enter {D : Addr} {o : HO} (hD : H D = none) (ho : lQ o = true) (m : Mz β M H) : Mz (β.add D) M (upd H D o) := ⟨fun a u e => by
  have pre : ∀ a x, H a = Option.some x → upd H D o a = Option.some x := fun a x e => by rw [ai (bh e hD)]; exact e
  have z := m.obj a u e
  cases u with
  | lst ds => obtain ⟨vs, z, l, r⟩ := z; exact ⟨vs, pre _ _ z, l, fun i v d a b => (r i v d a b).enter hD⟩
  | dk ks ds => obtain ⟨vs, z, hk, l, r⟩ := z; exact ⟨vs, pre _ _ z, hk, l, fun i v d a b => (r i v d a b).enter hD⟩
  | dt ks ds => obtain ⟨vs, z, hk, l, r⟩ := z; exact ⟨vs, pre _ _ z, hk, l, fun i v d a b => (r i v d a b).enter hD⟩
  | cH => obtain ⟨c, n, z, r⟩ := z; exact ⟨c, n, pre _ _ z, r⟩, fun p hp => by
  obtain ⟨ps, e, t⟩ := m.tabs p hp
  exact ⟨ps, by rw [ai (bh e hD)]; exact e, t⟩, fun a ha => by
  rcases List.mem_cons.mp ha with z | z
  · subst z; exact ⟨_, aM, ho⟩
  · exact (m.hids a z).upd (.inl hD), fun a o e ha => by
  rcases List.mem_cons.mp ha with z | z
  · subst z; rw [m.free hD] at e; cases e
  · exact m.apart a o e z, fun q hq => (m.lams q hq).keep (fun _ e => by rw [ai (bh e hD)]; exact e) fun _ _ _ e => by rw [ai (bh e hD)]; exact e⟩
theorem Rz.over {D : Addr} {o : HO} (hD : D ∈ β.hid) {v : V} {d : Dv} (h : Rz β M H v d) : Rz β M (upd H D o) v d := by
  have pre : ∀ a x, Fz β M a → H a = some x → upd H D o a = some x := fun a x m e => by
    have n : a ≠ D := fun z => by subst z; exact m.2 hD
    rw [ai n]; exact e
  induction h with
  | int i => exact .int i
  | bl b => exact .bl b
  | au => exact .au
  | str z => exact .str z
  | tup m e hl h ih => exact .tup m (pre _ _ m e) hl ih
  | lst m e hl h ih => exact .lst m (pre _ _ m e) hl ih
  | dk m e hk hl h ih => exact .dk m (e.map fun _ h => pre _ _ m h) hk hl ih
  | dt m e hk hl h ih => exact .dt m (e.map fun _ h => pre _ _ m h) hk hl ih
  | cJ m e m2 e2 hl h ih => exact .cJ m (pre _ _ m e) m2 (pre _ _ m2 e2) hl ih
  | set m e => exact .set m (pre _ _ m e)
  | ptr m => exact .ptr m
  | exc m e => exact .exc m (pre _ _ m e)
  | bw m e => exact .bw m (pre _ _ m e)
  | cj m e => exact .cj m (pre _ _ m e)
  | ck e => exact .ck e
  | raw v => exact .raw v
theorem Mz.over {D : Addr} {o : HO} (hD : D ∈ β.hid) (ho : lQ o = true) (hM : M D = none) (ht : D ∉ β.tb) (m : Mz β M H) : Mz β M (upd H D o) := ⟨fun a u e => by
  have na : a ≠ D := fun z => by subst z; rw [hM] at e; cases e
  have z := m.obj a u e
  cases u with
  | lst ds => obtain ⟨vs, z, l, r⟩ := z; exact ⟨vs, by rw [ai na]; exact z, l, fun i v d a b => (r i v d a b).over hD⟩
  | dk ks ds => obtain ⟨vs, z, hk, l, r⟩ := z; exact ⟨vs, by rw [ai na]; exact z, hk, l, fun i v d a b => (r i v d a b).over hD⟩
  | dt ks ds => obtain ⟨vs, z, hk, l, r⟩ := z; exact ⟨vs, by rw [ai na]; exact z, hk, l, fun i v d a b => (r i v d a b).over hD⟩
  | cH => obtain ⟨c, n, z, r⟩ := z; exact ⟨c, n, by rw [ai na]; exact z, r⟩, fun p hp => by
  obtain ⟨ps, e, t⟩ := m.tabs p hp
  have n : p ≠ D := fun z => by subst z; exact ht hp
  exact ⟨ps, by rw [ai n]; exact e, t⟩, fun a ha => (m.hids a ha).upd (.inr ho), m.apart, fun q hq => by
  obtain ⟨o', e', n⟩ := m.hids D hD
  exact (m.lams q hq).keep (fun _ e => by rw [ai (fun z => by subst z; rw [e'] at e; cases e; cases n)]; exact e) fun c _ _ e => by rw [ai (fun z => by subst z; rw [e'] at e; cases e; cases n)]; exact e⟩
theorem Ey.over {D : Addr} {o : HO} (x : Ey M H M1 H1) (hD : H D = none) : Ey M H M1 (upd H1 D o) := ⟨fun b u m h => by
  have nb : b ≠ D := bh h hD
  rw [ai nb]
  exact x.keep b u m h, x.dom, x.new⟩
theorem Mz.A8 {D : Addr} (m : Mz β M H) (hD : H D = none) : D ∉ β.tb := fun z => by
  obtain ⟨_, e, _⟩ := m.tabs D z
  rw [hD] at e
  cases e
structure Bx (β cI : Bz) (H : Hp) : Prop where
  P : cI.P = β.P
  w : cI.w = β.w
  K : cI.K = β.K
  tb : cI.tb = β.tb
  old : ∀ a, a ∈ β.hid → a ∈ cI.hid
  new : ∀ a, a ∈ cI.hid → a ∈ β.hid ∨ H a = none
theorem Bx.refl : Bx β β H := ⟨rfl, rfl, rfl, rfl, fun _ h => h, fun _ h => .inl h⟩
theorem Bx.add {D : Addr} (hD : H D = none) : Bx β (β.add D) H := ⟨rfl, rfl, rfl, rfl, fun _ h => List.mem_cons_of_mem _ h, fun a h => by
  rcases List.mem_cons.mp h with z | z
  · exact .inr (z ▸ hD)
  · exact .inl z⟩
theorem Rz.bx {cI : Bz} (b : Bx β cI H) {v : V} {d : Dv} (h : Rz β M H v d) : Rz cI M H v d := by
  have ne : ∀ a x, Fz β M a → H a = some x → Fz cI M a := fun a x m e => ⟨m.1, fun z => by
    rcases b.new a z with q | q
    · exact m.2 q
    · rw [q] at e; cases e⟩
  induction h with
  | int i => exact .int i
  | bl b => exact .bl b
  | au => exact .au
  | str z => exact .str z
  | tup m e hl h ih => exact .tup (ne _ _ m e) e hl ih
  | lst m e hl h ih => exact .lst (ne _ _ m e) e hl ih
  | dk m e hk hl h ih => exact .dk (ne _ _ m e.there.choose_spec) e hk hl ih
  | dt m e hk hl h ih => exact .dt (ne _ _ m e.there.choose_spec) e hk hl ih
  | cJ m e m2 e2 hl h ih => exact .cJ (ne _ _ m e) e (ne _ _ m2 e2) e2 hl ih
  | set m e => exact .set (ne _ _ m e) (by rw [b.P, b.w]; exact e)
  | ptr m => exact .ptr m
  | exc m e => exact .exc (ne _ _ m e) e
  | bw m e => exact .bw (ne _ _ m e) e
  | cj m e => exact .cj (ne _ _ m e) e
  | ck e => exact .ck (by rw [b.K]; exact e)
  | raw v => exact .raw v
end
inductive Pin (M : Mh) : Dv → Prop where
  | int (i : Int) : Pin M (.int i)
  | bl (b : Bool) : Pin M (.bl b)
  | au : Pin M .au
  | str (z : Str) : Pin M (.str z)
  | tup {ds : List Dv} (h : ∀ d ∈ ds, Pin M d) : Pin M (.tup ds)
  | lst {ds : List Dv} (h : ∀ d ∈ ds, Pin M d) : Pin M (.lst ds)
  | set (ns : List Int) : Pin M (.set ns)
  | ptr {a : Addr} (h : (M a).isSome = true) : Pin M (.ptr a)
  | exc (C : Addr) : Pin M (.exc C)
  | bw (ns : List Int) : Pin M (.bw ns)
  | raw (v : V) : Pin M (.raw v)
  | dk {ks : List Key} {ds : List Dv} (h : ∀ d ∈ ds, Pin M d) : Pin M (.dk ks ds)
  | dt {ks : List (List Key)} {ds : List Dv} (h : ∀ d ∈ ds, Pin M d) : Pin M (.dt ks ds)
  | cJ {f c : Addr} {o oc : Obj} {vs : List V} {ds : List Dv} (h : ∀ d ∈ ds, Pin M d) : Pin M (.cJ f o c oc vs ds)
theorem Rz.pin {β : Bz} {M : Mh} {H : Hp} {v : V} {d : Dv} (h : Rz β M H v d) : Pin M d := by
  induction h with
  | int i => exact .int i
  | bl b => exact .bl b
  | au => exact .au
  | str z => exact .str z
  | tup m e hl h ih =>
    refine .tup fun d hd => ?_
    obtain ⟨i, hi⟩ := List.mem_iff_getElem?.mp hd
    have h1 := (List.getElem?_eq_some_iff.mp hi).1
    exact ih i _ d (List.getElem?_eq_getElem (by omega)) hi
  | lst m e hl h ih =>
    refine .lst fun d hd => ?_
    obtain ⟨i, hi⟩ := List.mem_iff_getElem?.mp hd
    have h1 := (List.getElem?_eq_some_iff.mp hi).1
    exact ih i _ d (List.getElem?_eq_getElem (by omega)) hi
  | dk m e hk hl h ih =>
    refine .dk fun d hd => ?_
    obtain ⟨i, hi⟩ := List.mem_iff_getElem?.mp hd
    have h1 := (List.getElem?_eq_some_iff.mp hi).1
    exact ih i _ d (List.getElem?_eq_getElem (by omega)) hi
  | dt m e hk hl h ih =>
    refine .dt fun d hd => ?_
    obtain ⟨i, hi⟩ := List.mem_iff_getElem?.mp hd
    have h1 := (List.getElem?_eq_some_iff.mp hi).1
    exact ih i _ d (List.getElem?_eq_getElem (by omega)) hi
  | cJ m e m2 e2 hl h ih =>
    refine .cJ fun d hd => ?_
    obtain ⟨i, hi⟩ := List.mem_iff_getElem?.mp hd
    have h1 := (List.getElem?_eq_some_iff.mp hi).1
    exact ih i _ d (List.getElem?_eq_getElem (by omega)) hi
  | set m e => exact .set _
  | ptr m => exact .ptr m
  | exc m e => exact .exc _
  | bw m e => exact .bw _
  | cj m e => exact .bw _
  | ck e => exact .bw _
  | raw v => exact .raw v
noncomputable def Mo.items : Mo → List Dv
  | .lst ds => ds
  | .dk _ ds => ds
  | .dt _ ds => ds
  | .cH => []
noncomputable def Wf (M : Mh) : Prop := ∀ b o, M b = some o → ∀ d ∈ o.items, Pin M d
theorem ip.Nr {β : Bz} {M : Mh} {H : Hp} {a : Addr} {o : Mo} (h : ip β M H a o) : ∃ vs, aI β M H vs o.items := by
  cases o with
  | lst ds => obtain ⟨vs, _, rs⟩ := h; exact ⟨vs, rs⟩
  | dk ks ds => obtain ⟨vs, _, _, rs⟩ := h; exact ⟨vs, rs⟩
  | dt ks ds => obtain ⟨vs, _, _, rs⟩ := h; exact ⟨vs, rs⟩
  | cH => exact ⟨[], .nil⟩
theorem Mz.wf {β : Bz} {M : Mh} {H : Hp} (m : Mz β M H) : Wf M := fun b o e d hd => by
  obtain ⟨vs, rs⟩ := (m.obj b _ e).Nr
  obtain ⟨i, hi⟩ := List.mem_iff_getElem?.mp hd
  obtain ⟨v, _, r⟩ := rs.get hi
  exact r.pin
noncomputable abbrev aA := List (Option Dv)
noncomputable abbrev ZK := Dv → Mh → Prop
noncomputable abbrev aJ := aA → Mh → ZK → Prop
noncomputable abbrev bS := aA → Mh → (Bool → Mh → Prop) → Prop
noncomputable abbrev eX := aA → Mh → (List Dv → Mh → Prop) → Prop
structure gv where
  nx : aA → Mh → Prop
  rt : ZK
  bk : aA → Mh → Prop := fun _ _ => False
  ct : aA → Mh → Prop := fun _ _ => False
noncomputable abbrev cp := gv → aA → Mh → Prop
noncomputable abbrev bL := Dv → aA → Mh → (aA → Mh → Prop) → Prop
noncomputable abbrev lU := List Dv → aA → Mh → (aA → Mh → Prop) → Prop
noncomputable abbrev cO := aA → Mh → (List Dv → Mh → Prop) → Prop
structure Gz extends Bz where
  M0 : Mh
  H0 : Hp
structure Zr (Γ : Gz) (β : Bz) (M : Mh) (ρ : aA) (σ : St) (H : Hp) : Prop where
  eP : β.P = Γ.P
  ew : β.w = Γ.w
  eK : β.K = Γ.K
  et : β.tb = Γ.tb
  sub : ∀ a, a ∈ Γ.hid → a ∈ β.hid
  wf : Wf Γ.M0
  ent : Ey Γ.M0 Γ.H0 M H
  mz : Mz β M H
  len : ρ.length = σ.length
  at' : ∀ (i : Nat) (d : Dv), ρ[i]? = some (some d) → ∃ v, σ[i]? = some (some v) ∧ Rz β M H v d
section
variable {Γ : Gz} {β : Bz} {M M' : Mh} {ρ : aA} {σ : St} {H H' : Hp}
theorem Zr.step (z : Zr Γ β M ρ σ H) (x : Ex β M H M' H') : Zr Γ β M' ρ σ H' := ⟨z.eP, z.ew, z.eK, z.et, z.sub, z.wf, z.ent.trans x.toEy, x.mz, z.len, fun i d e => let ⟨v, h, r⟩ := z.at' i d e; ⟨v, h, r.ex x⟩⟩
theorem Zr.set (z : Zr Γ β M ρ σ H) (i : Nat) {v : V} {d : Dv} (r : Rz β M H v d) : Zr Γ β M (ρ.set i (some d)) (σ.set i (some v)) H := ⟨z.eP, z.ew, z.eK, z.et, z.sub, z.wf, z.ent, z.mz, by simp [z.len], fun j e h => by
  rw [List.getElem?_set] at h ⊢
  rw [z.len] at h
  split at h
  · rename_i q
    rw [if_pos q]
    split at h
    · rename_i q2
      rw [if_pos q2]
      cases h
      exact ⟨v, rfl, r⟩
    · cases h
  · rename_i q
    rw [if_neg q]
    exact z.at' j e h⟩
end
noncomputable def lE (Γ : Gz) (p : aJ) : TE := fun σ H Q => ∃ (β : Bz) (ρ : aA) (M : Mh) (Q' : ZK), Zr Γ β M ρ σ H ∧ p ρ M Q' ∧ ∀ d M' v H', Ex β M H M' H' → Rz β M' H' v d → Q' d M' → Q v H'
noncomputable def lT (Γ : Gz) (p : bS) : TT := fun σ H Q => ∃ (β : Bz) (ρ : aA) (M : Mh) (Q' : Bool → Mh → Prop), Zr Γ β M ρ σ H ∧ p ρ M Q' ∧ ∀ b M' H', Ex β M H M' H' → Q' b M' → Q b H'
noncomputable def lA (Γ : Gz) (p : eX) : TA := fun σ H Q => ∃ (β : Bz) (ρ : aA) (M : Mh) (Q' : List Dv → Mh → Prop), Zr Γ β M ρ σ H ∧ p ρ M Q' ∧ ∀ ds M' vs H', Ex β M H M' H' → aI β M' H' vs ds → Q' ds M' → Q vs H'
structure Ev (β : Bz) (M : Mh) (H : Hp) (M' : Mh) (H' : Hp) : Prop where
  keep : ∀ b o, M b = none → H b = some o → H' b = some o ∨ ∃ o', Tg o o' ∧ H' b = some o'
  new : ∀ a o, M a = none → H a = some o → M' a = none
  mz : Mz β M' H'
theorem Ex.ev {β : Bz} {M M' : Mh} {H H' : Hp} (x : Ex β M H M' H') : Ev β M H M' H' := ⟨x.keep, x.new, x.mz⟩
theorem Ev.refl {β : Bz} {M : Mh} {H : Hp} (m : Mz β M H) : Ev β M H M H := (Ex.refl m).ev
theorem Ev.trans {β : Bz} {M M1 M2 : Mh} {H H1 H2 : Hp} (x : Ev β M H M1 H1) (y : Ev β M1 H1 M2 H2) : Ev β M H M2 H2 := by
  refine ⟨fun b o hm h => ?_, fun a o hm h => ?_, y.mz⟩
  · have k9 := x.new b o hm h
    rcases x.keep b o hm h with q | ⟨o1, t, q⟩
    · exact y.keep b o k9 q
    · rcases y.keep b _ k9 q with q2 | ⟨o2, t2, q2⟩
      · exact .inr ⟨o1, t, q2⟩
      · exact .inr ⟨o2, t.trans t2, q2⟩
  · have k9 := x.new a o hm h
    rcases x.keep a o hm h with q | ⟨o1, t, q⟩
    · exact y.new a _ k9 q
    · exact y.new a _ k9 q
structure wx (Γ : Gz) (β : Bz) (M : Mh) (H : Hp) (D' : gv) (D : Ends) : Prop where
  nx : ∀ bW M' aK H', Ev β M H M' H' → Zr Γ β M' bW aK H' → D'.nx bW M' → D.nx aK H'
  rt : ∀ d M' v H', Ev β M H M' H' → Ey Γ.M0 Γ.H0 M' H' → Rz β M' H' v d → D'.rt d M' → D.rt v H'
  bk : ∀ bW M' aK H', Ev β M H M' H' → Zr Γ β M' bW aK H' → D'.bk bW M' → D.bk aK H'
  ct : ∀ bW M' aK H', Ev β M H M' H' → Zr Γ β M' bW aK H' → D'.ct bW M' → D.ct aK H'
theorem wx.step {Γ : Gz} {β : Bz} {M M1 : Mh} {H H1 : Hp} {D' : gv} {D : Ends} (r : wx Γ β M H D' D) (x : Ev β M H M1 H1) : wx Γ β M1 H1 D' D :=
  ⟨fun a b c d y => r.nx a b c d (x.trans y), fun a b c d y => r.rt a b c d (x.trans y), fun a b c d y => r.bk a b c d (x.trans y), fun a b c d y => r.ct a b c d (x.trans y)⟩
noncomputable def lS (Γ : Gz) (p : cp) : TS := fun D σ H => ∃ (β : Bz) (ρ : aA) (M : Mh) (D' : gv), Zr Γ β M ρ σ H ∧ p D' ρ M ∧ wx Γ β M H D' D
noncomputable def lG (Γ : Gz) (p : bL) : TG := fun x σ H N => ∃ (β : Bz) (d : Dv) (ρ : aA) (M : Mh) (N' : aA → Mh → Prop), Zr Γ β M ρ σ H ∧ Rz β M H x d ∧ p d ρ M N' ∧ ∀ bW M' aK H', Ex β M H M' H' → Zr Γ β M' bW aK H' → N' bW M' → N aK H'
noncomputable def Nt (Γ : Gz) (p : lU) : oj := fun xs σ H N => ∃ (β : Bz) (ds : List Dv) (ρ : aA) (M : Mh) (N' : aA → Mh → Prop), Zr Γ β M ρ σ H ∧ aI β M H xs ds ∧ p ds ρ M N' ∧ ∀ bW M' aK H', Ex β M H M' H' → Zr Γ β M' bW aK H' → N' bW M' → N aK H'
noncomputable def yJ (β : Bz) (J : It) (ds : List Dv) (M : Mh) (H : Hp) : Prop := ∀ cI M' H', Bx β cI H → Ey M H M' H' → Mz cI M' H' → ∀ i, (i < ds.length → J.go i H' ∧ ∀ x gL, J.yld i H' x gL → Ex cI M' H' M' gL ∧ ∃ d, ds[i]? = some d ∧ Rz cI M' gL x d) ∧ (ds.length ≤ i → J.stop i H')
noncomputable def lI (Γ : Gz) (p : cO) : TI := fun σ H R => ∃ (β : Bz) (ρ : aA) (M : Mh) (R' : List Dv → Mh → Prop), Zr Γ β M ρ σ H ∧ p ρ M R' ∧ ∀ ds M' H' J, Ex β M H M' H' → yJ β J ds M' H' → R' ds M' → R J H'
noncomputable abbrev QE (Γ : Gz) (X : Cx) (e : Expr) (p : aJ) : Prop := PE X e (lE Γ p)
noncomputable abbrev QT (Γ : Gz) (X : Cx) (e : Expr) (p : bS) : Prop := PT X e (lT Γ p)
noncomputable abbrev QW (Γ : Gz) (X : Cx) (e : Expr) (p : bS) : Prop := PW X e (lT Γ p)
noncomputable abbrev QA (Γ : Gz) (X : Cx) (es : List Expr) (p : eX) : Prop := PA X es (lA Γ p)
noncomputable abbrev QS (Γ : Gz) (X : Cx) (s : Stmt) (p : cp) : Prop := PS X s (lS Γ p)
noncomputable abbrev lV (Γ : Gz) (X : Cx) (s : List Stmt) (p : cp) : Prop := fU X s (lS Γ p)
noncomputable abbrev QG (Γ : Gz) (X : Cx) (e : Expr) (p : bL) : Prop := PG X e (lG Γ p)
noncomputable abbrev CI (Γ : Gz) (X : Cx) (e : List Expr) (p : lU) : Prop := qu X e (Nt Γ p)
noncomputable abbrev QI (Γ : Gz) (X : Cx) (tg e : Expr) (p : cO) : Prop := PI X tg e (lI Γ p)
section
variable {X : Cx}
theorem PE.imp {e : Expr} {t t' : TE} (h : PE X e t) (i : ∀ σ H Q, t' σ H Q → t σ H Q) : PE X e t' := ⟨fun pins s σ H Q I q => h pins s σ H Q I (i _ _ _ q)⟩
theorem PT.imp {e : Expr} {t t' : TT} (h : PT X e t) (i : ∀ σ H Q, t' σ H Q → t σ H Q) : PT X e t' := ⟨fun pins s σ H Q I q => h pins s σ H Q I (i _ _ _ q)⟩
theorem PW.imp {e : Expr} {t t' : TT} (h : PW X e t) (i : ∀ σ H Q, t' σ H Q → t σ H Q) : PW X e t' := fun wh pins s σ H Q I q => h wh pins s σ H Q I (i _ _ _ q)
theorem PA.imp {e : List Expr} {t t' : TA} (h : PA X e t) (i : ∀ σ H Q, t' σ H Q → t σ H Q) : PA X e t' := ⟨fun pos pins s σ H Q I q => h pos pins s σ H Q I (i _ _ _ q)⟩
theorem PS.imp {e : Stmt} {t t' : TS} (h : PS X e t) (i : ∀ D σ H, t' D σ H → t D σ H) : PS X e t' := ⟨fun pins s σ H D I q => h pins s σ H D I (i _ _ _ q)⟩
theorem fU.imp {e : List Stmt} {t t' : TS} (h : fU X e t) (i : ∀ D σ H, t' D σ H → t D σ H) : fU X e t' := ⟨fun pins s σ H D I q => h pins s σ H D I (i _ _ _ q)⟩
theorem PG.imp {e : Expr} {t t' : TG} (h : PG X e t) (i : ∀ v σ H Q, t' v σ H Q → t v σ H Q) : PG X e t' := fun pins s σ H v u Q I r q => h pins s σ H v u Q I r (i _ _ _ _ q)
theorem qu.imp {e : List Expr} {t t' : oj} (h : qu X e t) (i : ∀ v σ H Q, t' v σ H Q → t v σ H Q) : qu X e t' := fun pins s σ H v u Q I r q => h pins s σ H v u Q I r (i _ _ _ _ q)
theorem PI.imp {tg e : Expr} {t t' : TI} (h : PI X tg e t) (i : ∀ σ H Q, t' σ H Q → t σ H Q) : PI X tg e t' := fun pins s σ H Q I q => h pins s σ H Q I (i _ _ _ q)
theorem fX.imp {e : List Expr} {t t' : TT} (h : fX X e t) (i : ∀ σ H Q, t' σ H Q → t σ H Q) : fX X e t' := fun pins s σ H Q I q => h pins s σ H Q I (i _ _ _ q)
variable {Γ : Gz} {a b c : Expr} {pa pb pc : aJ} {pos : Pos}
noncomputable def zVar (i : Nat) : aJ := fun ρ M Q => match ρ[i]? with | some (some d) => Q d M | _ => False
noncomputable def zC (d : Dv) : aJ := fun _ M Q => Q d M
theorem GV {i : Nat} {x : Str} (hN : X.N[i]? = some x) (hv : qp X.env.scope x) (hd : (x == ("__debug__" : Str)) = false := by decide) (gd : (x == ("__classdict__" : Str)) = false := by decide) : QE Γ X (.Name x pos) (zVar i) :=
  (xC hN hv hd gd).imp fun σ H Q ⟨β, ρ, M, Q', z, h, q⟩ => by
    unfold zVar at h
    split at h
    · rename_i d e
      obtain ⟨v, e2, r⟩ := z.at' i d e
      exact ⟨v, e2, q d M v H (.refl z.mz) r h⟩
    · exact h.elim
theorem qc {e : Expr} {v : V} {d : Dv} (h : PE X e (tC v)) (r : ∀ β M H, Rz β M H v d) : QE Γ X e (zC d) := h.imp fun σ H Q ⟨β, ρ, M, Q', z, h, q⟩ => q d M v H (.refl z.mz) (r β M H) h
theorem aC {i j pos} : QE Γ X (.Constant (.int i) j pos) (zC (.int i)) := qc Fc fun _ _ _ => .int _
theorem fc {b j pos} : QE Γ X (.Constant (.bool b) j pos) (zC (.bl b)) := qc IP fun _ _ _ => .bl _
theorem oJ {j pos} : QE Γ X (.Constant .none j pos) (zC .au) := qc Fd fun _ _ _ => .au
theorem GW {x j pos} : QE Γ X (.Constant (.str x) j pos) (zC (.str x)) := qc Fe fun _ _ _ => .str _
theorem A9 {x : Str} {i : Int} {u : Value} (hg : Gl X x) (hm : X.mg x = some u) (r : RelV (.int i) u) (hd : (x == ("__debug__" : Str)) = false := by decide) : QE Γ X (.Name x pos) (zC (.int i)) := qc (Dk hg hm r hd) fun _ _ _ => .int _
theorem bg {x : Str} {v : V} {u : Value} (hg : Gl X x) (hm : X.mg x = none) (hv : bootBuiltins x = some u) (r : RelV v u) (hn : x ≠ "__name__" := by decide) (hd : (x == ("__debug__" : Str)) = false := by decide) : QE Γ X (.Name x pos) (zC (.raw v)) := qc (Dl hg hm hv r hn hd) fun _ _ _ => .raw _
noncomputable abbrev eh := Dv → Dv → Mh → ZK → Prop
noncomputable def ni (Γ : Gz) (r : R2) (z : eh) : Prop := ∀ (β : Bz) x y d e M H Q Q', β.P = Γ.P → β.w = Γ.w → β.K = Γ.K → Mz β M H → Rz β M H x d → Rz β M H y e → z d e M Q' → (∀ d' M' v H', Ex β M H M' H' → Rz β M' H' v d' → Q' d' M' → Q v H') → r x y H Q
noncomputable def eR (Γ : Gz) (X : Cx) (f : Value → Value → Sem Value) (z : eh) : Prop := ∃ r, OpR X f r ∧ ni Γ r z
noncomputable def zOp (z : eh) (pa pb : aJ) : aJ := fun ρ M Q => pa ρ M fun d M1 => pb ρ M1 fun e M2 => z d e M2 Q
theorem wy {r : R2} {z : eh} (hz : ni Γ r z) {σ : St} {H : Hp} {Q : VK} (h : lE Γ (zOp z pa pb) σ H Q) : xJ r (lE Γ pa) (lE Γ pb) σ H Q := by
  obtain ⟨β, ρ, M, Q', zr, h, q⟩ := h
  exact ⟨β, ρ, M, _, zr, h, fun d M1 v H1 x1 r1 h1 => ⟨β, ρ, M1, _, zr.step x1, h1, fun e M2 u H2 x2 r2 h2 => hz β v u d e M2 H2 Q Q' zr.eP zr.ew zr.eK x2.mz (r1.ex x2) r2 h2 fun d' M' v' H' x3 r3 q3 => q _ _ _ _ (x1.trans (x2.trans x3)) r3 q3⟩⟩
theorem bp {op : Operator} {z : eh} (ho : eR Γ X (binaryOp op) z) (ha : QE Γ X a pa) (hb : QE Γ X b pb) : QE Γ X (.BinOp a op b pos) (zOp z pa pb) := by
  obtain ⟨r, h1, h2⟩ := ho
  exact (Ja h1 ha hb).imp fun σ H Q h => wy h2 h
theorem eF {op : CmpOp} {z : eh} (ho : eR Γ X (compareOp op) z) (ha : QE Γ X a pa) (hb : QE Γ X b pb) (hm : behindInMarks op b = false) : QE Γ X (.Compare a [op] [b] pos) (zOp z pa pb) := by
  obtain ⟨r, h1, h2⟩ := ho
  exact (Dx h1 ha hb hm).imp fun σ H Q h => wy h2 h
noncomputable def zBool (Q : Bool → Mh → Prop) : ZK := fun d M => match d with | .bl k => Q k M | _ => False
theorem i6 {Q : Bool → Mh → Prop} {d : Dv} {M : Mh} (h : zBool Q d M) : ∃ k, d = .bl k ∧ Q k M := by
  unfold zBool at h
  split at h
  · exact ⟨_, rfl, h⟩
  · exact h.elim
noncomputable def zTest (p : aJ) : bS := fun ρ M Q => p ρ M (zBool Q)
theorem sV {p : aJ} {t : TE} (i : ∀ σ H Q, lE Γ p σ H Q → t σ H Q) {σ : St} {H : Hp} {Q : Bool → Hp → Prop} (h : lT Γ (zTest p) σ H Q) : vZ t σ H Q := by
  obtain ⟨β, ρ, M, Q', zr, h, q⟩ := h
  refine i _ _ _ ⟨β, ρ, M, _, zr, h, fun d M1 v H1 x1 r1 h1 => ?_⟩
  obtain ⟨k, rfl, h2⟩ := i6 h1
  exact ⟨k, de r1, q k M1 H1 x1 h2⟩
theorem bb {op : CmpOp} {z : eh} (ho : eR Γ X (compareOp op) z) (ha : QE Γ X a pa) (hb : QE Γ X b pb) (hm : behindInMarks op b = false) : QT Γ X (.Compare a [op] [b] pos) (zTest (zOp z pa pb)) := by
  obtain ⟨r, h1, h2⟩ := ho
  exact (Dy h1 ha hb hm).imp fun σ H Q h => sV (fun _ _ _ => wy h2) h
theorem dg {e : Expr} {p : aJ} (h : QE Γ X e p) (he : ∀ whole, isTrue e X.env whole = (do let v ← whole; standAt e.pos; holding [v] (truthy v)) := by intro _; rfl) : QT Γ X e (zTest p) :=
  (Ff h he).imp fun σ H Q h => sV (fun _ _ _ h => h) h
noncomputable def zChain (z z' : eh) (pa pb pc : aJ) : aJ := fun ρ M Q => pa ρ M fun x M1 => pb ρ M1 fun y M2 => z x y M2 (zBool fun k M3 => if k = true then pc ρ M3 fun u M4 => z' y u M4 Q else Q (.bl false) M3)
theorem vp {r r' : R2} {z z' : eh} (hz : ni Γ r z) (Nu : ni Γ r' z') {σ : St} {H : Hp} {Q : VK} (h : lE Γ (zChain z z' pa pb pc) σ H Q) : sk r r' (lE Γ pa) (lE Γ pb) (lE Γ pc) σ H Q := by
  obtain ⟨β, ρ, M, Q', zr, h, q⟩ := h
  refine ⟨β, ρ, M, _, zr, h, fun d M1 v H1 x1 r1 h1 => ⟨β, ρ, M1, _, zr.step x1, h1, fun e M2 u H2 x2 r2 h2 => hz β v u d e M2 H2 _ _ zr.eP zr.ew zr.eK x2.mz (r1.ex x2) r2 h2 fun d' M3 v' H3 x3 r3 h3 => ?_⟩⟩
  obtain ⟨k, rfl, h4⟩ := i6 h3
  have i7 := x1.trans (x2.trans x3)
  refine ⟨k, de r3, ?_⟩
  cases k with
  | true =>
    rw [if_pos rfl] at h4 ⊢
    exact ⟨β, ρ, M3, _, zr.step i7, h4, fun f M4 g H4 x4 r4 h5 => Nu β u g e f M4 H4 _ _ zr.eP zr.ew zr.eK x4.mz ((r2.ex x3).ex x4) r4 h5 fun d5 M5 v5 H5 x5 r5 q5 => q _ _ _ _ (i7.trans (x4.trans x5)) r5 q5⟩
  | false =>
    rw [if_neg Bool.false_ne_true] at h4 ⊢
    exact q _ _ _ _ i7 (.bl _) h4
theorem Ba {op iW : CmpOp} {z z' : eh} (ho : eR Γ X (compareOp op) z) (eQ : eR Γ X (compareOp iW) z') (ha : QE Γ X a pa) (hb : QE Γ X b pb) (hc : QE Γ X c pc) (hm : lastMarks [op, iW] [b, c] = false := by with_unfolding_all rfl) :
    QE Γ X (.Compare a [op, iW] [b, c] pos) (zChain z z' pa pb pc) := by
  obtain ⟨r, h1, h2⟩ := ho
  obtain ⟨r', GX, GY⟩ := eQ
  exact (Ap h1 GX ha hb hc hm).imp fun σ H Q h => vp h2 GY h
theorem sW {op iW : CmpOp} {z z' : eh} (ho : eR Γ X (compareOp op) z) (eQ : eR Γ X (compareOp iW) z') (ha : QE Γ X a pa) (hb : QE Γ X b pb) (hc : QE Γ X c pc) (hm : lastMarks [op, iW] [b, c] = false := by with_unfolding_all rfl) :
    QT Γ X (.Compare a [op, iW] [b, c] pos) (zTest (zChain z z' pa pb pc)) := by
  obtain ⟨r, h1, h2⟩ := ho
  obtain ⟨r', GX, GY⟩ := eQ
  exact (Aq h1 GX ha hb hc hm).imp fun σ H Q h => sV (fun _ _ _ => vp h2 GY) h
variable {tA oi : bS} {rest : List Expr}
noncomputable def zAnd (t u : bS) : bS := fun ρ M Q => t ρ M fun c M1 => if c = true then u ρ M1 Q else Q false M1
noncomputable def zOr (t u : bS) : bS := fun ρ M Q => t ρ M fun c M1 => if c = true then Q true M1 else u ρ M1 Q
noncomputable def zNot (t : bS) : bS := fun ρ M Q => t ρ M fun c M1 => Q (!c) M1
theorem vq (ha : QT Γ X a tA) : QW Γ X (.BoolOp .And [a] pos) tA := Dm ha
theorem i9 (ha : QT Γ X a tA) : QW Γ X (.BoolOp .Or [a] pos) tA := Fg ha
theorem yK (ha : QT Γ X a tA) (hb : QW Γ X (.BoolOp .And (b :: rest) pos) oi) : QW Γ X (.BoolOp .And (a :: b :: rest) pos) (zAnd tA oi) :=
  (Fh ha hb).imp fun σ H Q ⟨β, ρ, M, Q', zr, h, q⟩ => ⟨β, ρ, M, _, zr, h, fun k M1 H1 x1 h1 => by
    cases k with
    | true => rw [if_pos rfl] at h1 ⊢; exact ⟨β, ρ, M1, _, zr.step x1, h1, fun k2 M2 H2 x2 h2 => q _ _ _ (x1.trans x2) h2⟩
    | false => rw [if_neg Bool.false_ne_true] at h1 ⊢; exact q _ _ _ x1 h1⟩
theorem ky (ha : QT Γ X a tA) (hb : QW Γ X (.BoolOp .Or (b :: rest) pos) oi) : QW Γ X (.BoolOp .Or (a :: b :: rest) pos) (zOr tA oi) :=
  (IQ ha hb).imp fun σ H Q ⟨β, ρ, M, Q', zr, h, q⟩ => ⟨β, ρ, M, _, zr, h, fun k M1 H1 x1 h1 => by
    cases k with
    | false => rw [if_neg Bool.false_ne_true] at h1 ⊢; exact ⟨β, ρ, M1, _, zr.step x1, h1, fun k2 M2 H2 x2 h2 => q _ _ _ (x1.trans x2) h2⟩
    | true => rw [if_pos rfl] at h1 ⊢; exact q _ _ _ x1 h1⟩
theorem j1 (ha : QT Γ X a tA) : QT Γ X (.UnaryOp .Not a pos) (zNot tA) := (Fi ha).imp fun σ H Q ⟨β, ρ, M, Q', zr, h, q⟩ => ⟨β, ρ, M, _, zr, h, fun k M1 H1 x1 h1 => q _ _ _ x1 h1⟩
theorem QW.pt {e : Expr} {t : bS} (h : QW Γ X e t) : QT Γ X e t := PW.pt h
noncomputable def zAndV (pa pb : aJ) : aJ := fun ρ M Q => pa ρ M (zBool fun c M1 => if c = true then pb ρ M1 Q else Q (.bl false) M1)
noncomputable def zNotV (pa : aJ) : aJ := fun ρ M Q => pa ρ M (zBool fun c M1 => Q (.bl (!c)) M1)
theorem iq {op} (h : QE Γ X a pa) : QE Γ X (.BoolOp op [a] pos) pa := Fj h
theorem fD (ha : QE Γ X a pa) (hb : QE Γ X (.BoolOp .And (b :: rest) pos) pb) : QE Γ X (.BoolOp .And (a :: b :: rest) pos) (zAndV pa pb) :=
  (Fl ha hb).imp fun σ H Q ⟨β, ρ, M, Q', zr, h, q⟩ => ⟨β, ρ, M, _, zr, h, fun d M1 v H1 x1 r1 h1 => by
    obtain ⟨k, rfl, h2⟩ := i6 h1
    refine ⟨k, de r1, ?_⟩
    cases k with
    | true => rw [if_pos rfl] at h2 ⊢; exact ⟨β, ρ, M1, _, zr.step x1, h2, fun d2 M2 v2 H2 x2 r2 h2 => q _ _ _ _ (x1.trans x2) r2 h2⟩
    | false => rw [if_neg Bool.false_ne_true] at h2 ⊢; exact q _ _ _ _ x1 (.bl _) h2⟩
theorem sX (ha : QE Γ X a pa) : QE Γ X (.UnaryOp .Not a pos) (zNotV pa) := (Fm ha).imp fun σ H Q ⟨β, ρ, M, Q', zr, h, q⟩ => ⟨β, ρ, M, _, zr, h, fun d M1 v H1 x1 r1 h1 => by
    obtain ⟨k, rfl, h2⟩ := i6 h1
    exact ⟨k, de r1, q _ _ _ _ x1 (.bl _) h2⟩⟩
noncomputable def zIfE (t : bS) (pa pb : aJ) : aJ := fun ρ M Q => t ρ M fun c M1 => if c = true then pa ρ M1 Q else pb ρ M1 Q
theorem Bb (hc : QT Γ X c tA) (ha : QE Γ X a pa) (hb : QE Γ X b pb) : QE Γ X (.IfExp c a b pos) (zIfE tA pa pb) :=
  (Ah hc ha hb).imp fun σ H Q ⟨β, ρ, M, Q', zr, h, q⟩ => ⟨β, ρ, M, _, zr, h, fun k M1 H1 x1 h1 => by
    cases k with
    | true => rw [if_pos rfl] at h1 ⊢; exact ⟨β, ρ, M1, _, zr.step x1, h1, fun d2 M2 v2 H2 x2 r2 h2 => q _ _ _ _ (x1.trans x2) r2 h2⟩
    | false => rw [if_neg Bool.false_ne_true] at h1 ⊢; exact ⟨β, ρ, M1, _, zr.step x1, h1, fun d2 M2 v2 H2 x2 r2 h2 => q _ _ _ _ (x1.trans x2) r2 h2⟩⟩
noncomputable def zNil : eX := fun _ M Q => Q [] M
noncomputable def zCons (p : aJ) (r : eX) : eX := fun ρ M Q => p ρ M fun d M1 => r ρ M1 fun ds M2 => Q (d :: ds) M2
variable {es : List Expr} {za : eX}
theorem af : QA Γ X [] zNil := FQ.imp fun σ H Q ⟨β, ρ, M, Q', zr, h, q⟩ => q [] M [] H (.refl zr.mz) .nil h
theorem aa {e : Expr} (ha : QE Γ X e pa) (hr : QA Γ X es za) (hs : starEach (e :: es) X.env = (false, eval e X.env) :: starEach es X.env := by rfl) : QA Γ X (e :: es) (zCons pa za) :=
  (DA ha hr hs).imp fun σ H Q ⟨β, ρ, M, Q', zr, h, q⟩ => ⟨β, ρ, M, _, zr, h, fun d M1 v H1 x1 r1 h1 => ⟨β, ρ, M1, _, zr.step x1, h1, fun ds M2 vs H2 x2 r2 h2 => q _ _ _ _ (x1.trans x2) (.cons (r1.ex x2) r2) h2⟩⟩
noncomputable def zTup (p : eX) : aJ := fun ρ M Q => p ρ M fun ds M1 => ds.length ≤ sizeLine ∧ Q (.tup ds) M1
noncomputable def zLst (p : eX) : aJ := fun ρ M Q => p ρ M fun ds M1 => ds.length ≤ sizeLine ∧ Q (.lst ds) M1
noncomputable def zLstP (p : eX) : aJ := fun ρ M Q => p ρ M fun ds M1 => ds.length ≤ sizeLine ∧ ∀ a, M1 a = none → Q (.ptr a) (av M1 a (.lst ds))
theorem ir {x1} (h : QA Γ X es za) : QE Γ X (.Tuple es x1 pos) (zTup za) := (FR h).imp fun σ H Q ⟨β, ρ, M, Q', zr, h, q⟩ => ⟨β, ρ, M, _, zr, h, fun ds M1 vs H1 x1 r1 h1 => ⟨by rw [r1.len]; exact h1.1, fun p hp => by
    have x2 := Ex.lay x1.mz hp (.tup vs)
    exact q _ _ _ _ (x1.trans x2) (oH (x1.mz.fz hp) aM (r1.ex x2)) h1.2⟩⟩
theorem sY (h : QA Γ X es za) : QE Γ X (.List es pos) (zLst za) := (xQ h).imp fun σ H Q ⟨β, ρ, M, Q', zr, h, q⟩ => ⟨β, ρ, M, _, zr, h, fun ds M1 vs H1 x1 r1 h1 => ⟨by rw [r1.len]; exact h1.1, fun p hp => by
    have x2 := Ex.lay x1.mz hp (.lst vs)
    exact q _ _ _ _ (x1.trans x2) (oI (x1.mz.fz hp) aM (r1.ex x2)) h1.2⟩⟩
theorem mK (h : QA Γ X es za) : QE Γ X (.List es pos) (zLstP za) := (xQ h).imp fun σ H Q ⟨β, ρ, M, Q', zr, h, q⟩ => ⟨β, ρ, M, _, zr, h, fun ds M1 vs H1 x1 r1 h1 => ⟨by rw [r1.len]; exact h1.1, fun p hp => by
    have x2 := Ex.own x1.mz (.inr hp) r1
    exact q _ _ _ _ (x1.trans x2) (.ptr (by rw [updM_same]; rfl)) (h1.2 p (x1.mz.free hp))⟩⟩
noncomputable abbrev qT := List Dv → Mh → ZK → Prop
noncomputable def CJ (Γ : Gz) (r : List V → Hp → VK → Prop) (z : qT) : Prop := ∀ (β : Bz) xs ds M H Q Q', β.P = Γ.P → β.w = Γ.w → β.K = Γ.K → Mz β M H → aI β M H xs ds → z ds M Q' → (∀ d' M' v H', Ex β M H M' H' → Rz β M' H' v d' → Q' d' M' → Q v H') → r xs H Q
noncomputable def fH (Γ : Gz) (X : Cx) (f : Value) (z : qT) : Prop := ∃ r, cP X f r ∧ CJ Γ r z
noncomputable def zCB (z : qT) (p : eX) : aJ := fun ρ M Q => p ρ M fun ds M1 => z ds M1 Q
theorem GZ {r : List V → Hp → VK → Prop} {z : qT} (hz : CJ Γ r z) {σ : St} {H : Hp} {Q : VK} (h : lE Γ (zCB z za) σ H Q) : FV r (lA Γ za) σ H Q := by
  obtain ⟨β, ρ, M, Q', zr, h, q⟩ := h
  exact ⟨β, ρ, M, _, zr, h, fun ds M1 vs H1 x1 r1 h1 => hz β vs ds M1 H1 _ _ zr.eP zr.ew zr.eK x1.mz r1 h1 fun d' M' v' H' x2 r2 q2 => q _ _ _ _ (x1.trans x2) r2 q2⟩
variable {st : Stmt} {KH : List Stmt} {p p2 : cp} {e : Expr} {pe : aJ}
noncomputable def zNext : cp := fun D ρ M => D.nx ρ M
noncomputable def zSeq (p q : cp) : cp := fun D ρ M => p { D with nx := q D } ρ M
theorem qss_nil : lV Γ X [] zNext := Dn.imp fun D σ H ⟨β, ρ, M, D', zr, h, r⟩ => r.nx ρ M σ H (.refl zr.mz) zr h
theorem ah (h1 : QS Γ X st p) (h2 : lV Γ X KH p2) : lV Γ X (st :: KH) (zSeq p p2) := (Ai h1 h2).imp fun D σ H ⟨β, ρ, M, D', zr, h, r⟩ =>
  ⟨β, ρ, M, _, zr, h, fun bW M' aK H' x gw h' => ⟨β, bW, M', D', gw, h', r.step x⟩, r.rt, r.bk, r.ct⟩
theorem aw (h1 : QS Γ X st p) : lV Γ X [st] p := Dp h1
noncomputable def zDrop (p : aJ) : cp := fun D ρ M => p ρ M fun _ M1 => D.nx ρ M1
theorem iR (he : QE Γ X e pe) (hs : swapsWith e none pos.line X.env = pure false := by rfl) : QS Γ X (.Expr e pos) (zDrop pe) := (Dq he hs).imp fun D σ H ⟨β, ρ, M, D', zr, h, r⟩ =>
  ⟨β, ρ, M, _, zr, h, fun d M1 v H1 x1 r1 h1 => r.nx ρ M1 σ H1 x1.ev (zr.step x1) h1⟩
noncomputable def zRet (p : aJ) : cp := fun D ρ M => p ρ M D.rt
theorem aP (he : QE Γ X e pe) : QS Γ X (.Return (some e) pos) (zRet pe) := (Fn he).imp fun D σ H ⟨β, ρ, M, D', zr, h, r⟩ => ⟨β, ρ, M, _, zr, h, fun d M' v H' x r1 h1 => r.rt _ _ _ _ x.ev (zr.ent.trans x.toEy) r1 h1⟩
noncomputable def zIfS (c : bS) (p q : cp) : cp := fun D ρ M => c ρ M fun b M1 => if b = true then p D ρ M1 else q D ρ M1
theorem bU {as bs : List Stmt} {pa pb : cp} (hc : QT Γ X c tA) (ha : lV Γ X as pa) (hb : lV Γ X bs pb) : QS Γ X (.If c as bs pos) (zIfS tA pa pb) := (IY hc ha hb).imp fun D σ H ⟨β, ρ, M, D', zr, h, r⟩ =>
  ⟨β, ρ, M, _, zr, h, fun k M1 H1 x1 h1 => by
    cases k with
    | true => rw [if_pos rfl] at h1 ⊢; exact ⟨β, ρ, M1, D', zr.step x1, h1, r.step x1.ev⟩
    | false => rw [if_neg Bool.false_ne_true] at h1 ⊢; exact ⟨β, ρ, M1, D', zr.step x1, h1, r.step x1.ev⟩⟩
noncomputable def zNever : cp := fun _ _ _ => False
noncomputable def zgName (i : Nat) : bL := fun d ρ M N => N (ρ.set i (some d)) M
theorem aG {i : Nat} {x : Str} (hN : X.N.Nodup) (hi : X.N[i]? = some x) (hx : Loc X.env.scope x) (hf : X.fn x = true ∨ X.env.scope.names.lookup x = some .local := by first | exact .inl rfl | exact .inr rfl | assumption) : QG Γ X (.Name x pos) (zgName i) :=
  (Dr hN hi hx hf).imp fun v σ H N ⟨β, d, ρ, M, N', zr, r, h, q⟩ => q _ _ _ _ (.refl zr.mz) (zr.set i r) h
noncomputable def zgNil : lU := fun ds ρ M N => match ds with | [] => N ρ M | _ => False
noncomputable def zgCons (g : bL) (u : lU) : lU := fun ds ρ M N => match ds with | d :: r => g d ρ M fun bW M' => u r bW M' N | [] => False
theorem gQ : CI Γ X [] zgNil := Ds.imp fun vs σ H N ⟨β, ds, ρ, M, N', zr, r, h, q⟩ => by
  unfold zgNil at h
  split at h
  · have e : vs = [] := List.length_eq_zero_iff.mp r.len
    exact ⟨e, q _ _ _ _ (.refl zr.mz) zr h⟩
  · exact h.elim
theorem b7 {g : bL} {u : lU} (h1 : QG Γ X e g) (h2 : CI Γ X es u) (hs : (assignEach (e :: es) X.env).map (·.2) = assign e X.env :: (assignEach es X.env).map (·.2) := by rfl) : CI Γ X (e :: es) (zgCons g u) :=
  (Ak h1 h2 hs).imp fun vs σ H N ⟨β, ds, ρ, M, N', zr, r, h, q⟩ => by
    unfold zgCons at h
    split at h
    · rename_i d rest
      cases vs with
      | nil => exact absurd r.len (by simp)
      | cons v vs => exact ⟨v, vs, rfl, β, d, ρ, M, _, zr, r.head, h, fun bW M' aK H' x gw h' => ⟨β, rest, bW, M', N', gw, r.tail.ex x, h', fun a b c d y => q a b c d (x.trans y)⟩⟩
    · exact h.elim
noncomputable def zgTup (n : Nat) (u : lU) : bL := fun d ρ M N => match d with | .tup ds => ds.length = n ∧ u ds ρ M N | _ => False
theorem ja {k : Nat} {u : lU} {n : Nat} (hc : X.calm = true) (h : CI Γ X es u) (hn : (assignEach es X.env).length = n := by rfl) (B9 : (assignEach es X.env).findIdx? (·.1) = none := by rfl) : QG Γ X (.Tuple es k pos) (zgTup n u) :=
  (Fp hc h hn B9).imp fun v σ H N ⟨β, d, ρ, M, N', zr, r, h, q⟩ => by
    unfold zgTup at h
    split at h
    · obtain ⟨a, vs, rfl, m, e, rs⟩ := bX r
      exact ⟨a, vs, rfl, cN.of e, by rw [rs.len]; exact h.1, β, _, ρ, M, N', zr, rs, h.2, q⟩
    · exact h.elim
noncomputable def zAsg (p : aJ) (g : bL) : cp := fun D ρ M => p ρ M fun d M1 => g d ρ M1 D.nx
theorem Jw {g : bL} {D : Ends} {σ : St} {H : Hp} (h : lS Γ (zAsg pe g) D σ H) : nI (lE Γ pe) (lG Γ g) D σ H := by
  obtain ⟨β, ρ, M, D', zr, h, r⟩ := h
  exact ⟨β, ρ, M, _, zr, h, fun d M1 v H1 x1 r1 h1 => ⟨β, d, ρ, M1, D'.nx, zr.step x1, r1, h1, fun bW M' aK H' x gw h' => r.nx _ _ _ _ (x1.trans x).ev gw h'⟩⟩
theorem j4 {tg : Expr} {g : bL} (he : QE Γ X e pe) (hg : QG Γ X tg g) (hs : swapsWithSole [tg] e pos.line X.env = pure false := by rfl) (hw : swappedStores [tg] e X.env = pure none := by rfl)
    (h1 : (assignEach [tg] X.env).map (·.2) = [assign tg X.env] := by rfl) : QS Γ X (.Assign [tg] e pos) (zAsg pe g) := (Fs he hg hs hw h1).imp fun D σ H h => Jw h
theorem oK {t : TE} (i : ∀ σ H Q, lE Γ pe σ H Q → t σ H Q) {n : Nat} {D : Ends} {σ : St} {H : Hp} (h : lS Γ (zAsg pe (zgName n)) D σ H) : nI t (ke n) D σ H := by
  obtain ⟨β, ρ, M, D', zr, h, r⟩ := h
  exact i _ _ _ ⟨β, ρ, M, _, zr, h, fun d M1 v H1 x1 r1 h1 => r.nx _ _ _ _ x1.ev ((zr.step x1).set n r1) h1⟩
theorem aQ {i : Nat} {x : Str} {pos' : Pos} (hN : X.N.Nodup) (hi : X.N[i]? = some x) (hx : Loc X.env.scope x) (he : QE Γ X e pe) (hs : swapsWith e (some (.Name x pos')) pos.line X.env = pure false := by rfl) (hf : X.fn x = true ∨ X.env.scope.names.lookup x = some .local := by first | exact .inl rfl | exact .inr rfl | assumption) :
    QS Γ X (.Assign [.Name x pos'] e pos) (zAsg pe (zgName i)) := (Ft hN hi hx he hs hf).imp fun D σ H h => oK (fun _ _ _ h => h) h
end
section
variable {X : Cx} {Γ : Gz} {β : Bz}
noncomputable def ziTup (p : aJ) : cO := fun ρ M R => p ρ M fun d M1 => match d with | .tup ds => R ds M1 | _ => False
noncomputable def ziLst (p : aJ) : cO := fun ρ M R => p ρ M fun d M1 => match d with | .lst ds => R ds M1 | _ => False
noncomputable def cq (lo : Int) (n : Nat) : List Dv := (List.range n).map fun i => .int (lo + (i : Nat))
noncomputable def ziRng1 (p : eX) : cO := fun ρ M R => p ρ M fun ds M1 => match ds with | [.int j] => -(2 ^ 62) ≤ j ∧ j < 2 ^ 62 ∧ R (cq 0 j.toNat) M1 | _ => False
noncomputable def ziRng2 (p : eX) : cO := fun ρ M R => p ρ M fun ds M1 => match ds with | [.int i, .int j] => (-(2 ^ 62) ≤ i ∧ i < 2 ^ 62 ∧ -(2 ^ 62) ≤ j ∧ j < 2 ^ 62) ∧ R (cq i (j - i).toNat) M1 | _ => False
theorem kz {J : It} {vs : List V} {ds : List Dv} {M : Mh} {H : Hp} (r : aI β M H vs ds) (h : ∀ M' H', Ey M H M' H' → Runs J vs H') : yJ β J ds M H := fun cI M' H' bx x m i => by
  have q := h M' H' x i
  rw [← r.len]
  refine ⟨fun hi => ⟨(q.1 hi).1, fun v gL y => ?_⟩, q.2⟩
  obtain ⟨e, hv⟩ := (q.1 hi).2 v gL y
  subst e
  obtain ⟨d, hd, rd⟩ := r.get' hv
  exact ⟨.refl m, d, hd, (rd.bx bx).ey x⟩
variable {tg l : Expr} {p : aJ} {pa : eX} {K : PySem.W.Frag}
theorem sZ (hK : X.K = K) (hl : QE Γ X l p) : QI Γ X tg l (ziTup p) := (DI hK hl).imp fun σ H R ⟨β, ρ, M, R', zr, h, q⟩ => ⟨β, ρ, M, _, zr, h, fun d M1 v H1 x1 r1 h1 => by
  revert h1
  split
  · intro h1
    obtain ⟨a, vs, rfl, m, e, rs⟩ := bX r1
    exact ⟨a, rfl, ⟨_, cN.of e⟩, q _ _ _ _ x1 (kz rs fun M' H' x => AH (cN.of (x.get m.1 e rfl))) h1⟩
  · exact fun h => h.elim⟩
theorem cX (hK : X.K = K) (hl : QE Γ X l p) : QI Γ X tg l (ziLst p) := (AI hK hl).imp fun σ H R ⟨β, ρ, M, R', zr, h, q⟩ => ⟨β, ρ, M, _, zr, h, fun d M1 v H1 x1 r1 h1 => by
  revert h1
  split
  · intro h1
    obtain ⟨a, vs, rfl, m, e, rs⟩ := cT r1
    exact ⟨a, rfl, ⟨_, bH.of e⟩, q _ _ _ _ x1 (kz rs fun M' H' x => yk (bH.of (x.get m.1 e rfl))) h1⟩
  · exact fun h => h.elim⟩
theorem lW {lo : Int} {n : Nat} {M : Mh} {H : Hp} : aI β M H ((List.range n).map fun i => V.int (lo + (i : Nat))) (cq lo n) := ⟨by simp [cq], fun i v d a b => by
  unfold cq at b
  rw [List.getElem?_map] at a b
  cases e : (List.range n)[i]? with
  | none => rw [e] at a; cases a
  | some c => rw [e] at a b; cases a; cases b; exact .int _⟩
theorem dw {xs : List V} {d : Dv} {M : Mh} {H : Hp} (r : aI β M H xs [d]) : ∃ v, xs = [v] ∧ Rz β M H v d := by
  match xs, r with
  | [v], r => exact ⟨v, rfl, r.head⟩
  | [], r => exact absurd r.len (by simp)
  | _ :: _ :: _, r => exact absurd r.len (by simp)
theorem gR {xs : List V} {d e : Dv} {M : Mh} {H : Hp} (r : aI β M H xs [d, e]) : ∃ v u, xs = [v, u] ∧ Rz β M H v d ∧ Rz β M H u e := by
  match xs, r with
  | [v, u], r => exact ⟨v, u, rfl, r.head, r.tail.head⟩
  | [], r => exact absurd r.len (by simp)
  | [_], r => exact absurd r.len (by simp)
  | _ :: _ :: _ :: _, r => exact absurd r.len (by simp)
section
variable {e e1 e2 : Expr} {pr pos : Pos}
theorem G0 {σ : St} {H : Hp} {R : It → Hp → Prop} (h : lI Γ (ziRng1 pa) σ H R) : Cb (lA Γ pa) σ H R := by
  obtain ⟨β, ρ, M, R', zr, h, q⟩ := h
  refine ⟨β, ρ, M, _, zr, h, fun ds M1 vs H1 x1 r1 h1 => ?_⟩
  revert h1
  split
  · rintro ⟨b1, b2, h1⟩
    obtain ⟨v, rfl, r⟩ := dw r1
    rw [aN r]
    exact ⟨_, rfl, b1, b2, q _ _ _ _ x1 (kz lW fun M' H' x => kh) h1⟩
  · exact fun h => h.elim
theorem G1 {σ : St} {H : Hp} {R : It → Hp → Prop} (h : lI Γ (ziRng2 pa) σ H R) : Cd (lA Γ pa) σ H R := by
  obtain ⟨β, ρ, M, R', zr, h, q⟩ := h
  refine ⟨β, ρ, M, _, zr, h, fun ds M1 vs H1 x1 r1 h1 => ?_⟩
  revert h1
  split
  · rintro ⟨b1, h1⟩
    obtain ⟨v, u, rfl, r, r'⟩ := gR r1
    rw [aN r, aN r']
    exact ⟨_, _, rfl, b1, q _ _ _ _ x1 (kz lW fun M' H' x => kh) h1⟩
  · exact fun h => h.elim
end
noncomputable def zLoop (g : bL) (tb : cp) (D : gv) : List Dv → aA → Mh → Prop
  | [], ρ, M => D.nx ρ M
  | d :: ds, ρ, M => g d ρ M fun j5 M2 => tb { D with nx := zLoop g tb D ds, ct := zLoop g tb D ds, bk := D.nx } j5 M2
noncomputable def zFor (zi : cO) (g : bL) (tb : cp) : cp := fun D ρ M => zi ρ M fun ds M1 => zLoop g tb D ds ρ M1
noncomputable def zForM (zi : cO) (g : bL) (tb : Mh → cp) : cp := fun D ρ M => zi ρ M fun ds M1 => zLoop g (tb M1) D ds ρ M1
theorem Zr.root {M : Mh} {ρ : aA} {σ : St} {H : Hp} (z : Zr Γ β M ρ σ H) : Zr ⟨β, M, H⟩ β M ρ σ H := ⟨rfl, rfl, rfl, rfl, fun _ h => h, z.mz.wf, .refl, z.mz, z.len, z.at'⟩
theorem Zr.yL {M M1 : Mh} {ρ KI : aA} {σ om : St} {H H1 : Hp} (z : Zr Γ β M ρ σ H) (y : Zr ⟨β, M, H⟩ β M1 KI om H1) : Zr Γ β M1 KI om H1 := ⟨z.eP, z.ew, z.eK, z.et, z.sub, z.wf, z.ent.trans y.ent, y.mz, y.len, y.at'⟩
theorem Jx {zi : cO} {g : bL} {tb : Mh → cp} {t : TS} (hb : ∀ bE : Gz, bE.P = Γ.P → bE.w = Γ.w → bE.K = Γ.K → bE.tb = Γ.tb → ∀ D σ H, lS bE (tb bE.M0) D σ H → t D σ H) {tg : TG} (hg : ∀ bE : Gz, bE.P = Γ.P → bE.w = Γ.w → bE.K = Γ.K → bE.tb = Γ.tb → ∀ x σ H N, lG bE g x σ H N → tg x σ H N) {D : Ends} {σ : St} {H : Hp} (h : lS Γ (zForM zi g tb) D σ H) : Fy (lI Γ zi) tg t D σ H := by
  obtain ⟨β, ρ, M, D', zr, h, r⟩ := h
  refine ⟨β, ρ, M, _, zr, h, fun ds M1 H1 J x1 it h1 => ?_⟩
  have gM := zr.step x1
  refine ⟨fun i m aK H' => m = ds.length - i ∧ i ≤ ds.length ∧ ∃ bW M', Zr ⟨β, M1, H1⟩ β M' bW aK H' ∧ zLoop g (tb M1) D' (ds.drop i) bW M', ⟨ds.length, rfl, Nat.zero_le _, ρ, M1, gM.root, h1⟩, ?_⟩
  rintro i m aK H' ⟨rfl, hi, bW, M', gw, h'⟩
  have ev : ∀ {M2 : Mh} {j5 : aA} {oo : St} {H2 : Hp}, Zr ⟨β, M1, H1⟩ β M2 j5 oo H2 → Ev β M H M2 H2 := fun z => x1.ev.trans ⟨z.ent.keep, z.ent.new, z.mz⟩
  by_cases bu : i < ds.length
  · have q := (it β M' H' .refl gw.ent gw.mz i).1 bu
    refine .inr ⟨q.1, fun oo H2 => ∃ j5 M2, Zr ⟨β, M1, H1⟩ β M2 j5 oo H2 ∧ zLoop g (tb M1) D' (ds.drop (i + 1)) j5 M2, fun oo H2 ⟨j5, M2, Nv, h2⟩ => ⟨ds.length - (i + 1), by omega, rfl, bu, j5, M2, Nv, h2⟩, fun v gL y => ?_⟩
    obtain ⟨x2, d, hd, rd⟩ := q.2 v gL y
    have e : ds.drop i = d :: ds.drop (i + 1) := by
      rw [List.drop_eq_getElem_cons bu]
      rw [List.getElem?_eq_getElem bu] at hd
      cases hd
      rfl
    rw [e] at h'
    refine hg ⟨β, M1, H1⟩ zr.eP zr.ew zr.eK zr.et _ _ _ _ ⟨β, d, bW, M', _, gw.step x2, rd, h', fun Nw M3 k7 H3 x3 Nx h3 => hb ⟨β, M1, H1⟩ zr.eP zr.ew zr.eK zr.et _ _ _ ⟨β, Nw, M3, _, Nx, h3, ?_⟩⟩
    exact ⟨fun oM M4 yM H4 x4 lg h4 => ⟨oM, M4, lg, h4⟩, fun d4 M4 v4 H4 x4 e4 r4 h4 => r.rt _ _ _ _ (x1.ev.trans ⟨e4.keep, e4.new, x4.mz⟩) (gM.ent.trans e4) r4 h4, fun oM M4 yM H4 x4 lg h4 => r.nx _ _ _ _ (ev lg) (gM.yL lg) h4, fun oM M4 yM H4 x4 lg h4 => ⟨oM, M4, lg, h4⟩⟩
  · have e : i = ds.length := by omega
    subst e
    rw [List.drop_length] at h'
    exact .inl ⟨(it β M' H' .refl gw.ent gw.mz _).2 (Nat.le_refl _), r.nx _ _ _ _ (ev gw) (gM.yL gw) h'⟩
noncomputable def Ny (Γ : Gz) (p : Mh → cp) : TS := fun D σ H => ∃ bE : Gz, bE.P = Γ.P ∧ bE.w = Γ.w ∧ bE.K = Γ.K ∧ bE.tb = Γ.tb ∧ lS bE (p bE.M0) D σ H
noncomputable def Nz (Γ : Gz) (p : bL) : TG := fun x σ H N => ∃ bE : Gz, bE.P = Γ.P ∧ bE.w = Γ.w ∧ bE.K = Γ.K ∧ bE.tb = Γ.tb ∧ lG bE p x σ H N
theorem vt {body : List Stmt} {iter : Expr} {zi : cO} {g : bL} {tb : Mh → cp} {pos : Pos} (hp : PassesOwn (model X.prog X.w) X.A X.env X.xe) (hc : X.calm = true) (hi : QI Γ X tg iter zi)
    (CK : ∀ (bE : Gz) (M1 : Mh), bE.M0 = M1 → bE.P = Γ.P → bE.w = Γ.w → bE.K = Γ.K → bE.tb = Γ.tb → QG bE X tg g ∧ lV bE X body (tb M1))
    (hs : ∀ x, foldedSetIterable iter X.env x = pure x := by intro _; rfl) : QS Γ X (.For tg iter body [] pos) (zForM zi g tb) :=
  (FA (g := Nz Γ g) (tb := Ny Γ tb) hp hc hi (fun pins s σ H v u Q I r h => by obtain ⟨bE, e1, e2, e3, e4, h⟩ := h; exact (CK bE _ rfl e1 e2 e3 e4).1 pins s σ H v u Q I r h) ⟨fun pins s σ H D I h => by obtain ⟨bE, e1, e2, e3, e4, h⟩ := h; exact (CK bE _ rfl e1 e2 e3 e4).2 pins s σ H D I h⟩ hs).imp
    fun D σ H h => Jx (fun bE e1 e2 e3 e4 D σ H h => ⟨bE, e1, e2, e3, e4, h⟩) (fun bE e1 e2 e3 e4 x σ H N h => ⟨bE, e1, e2, e3, e4, h⟩) h
theorem gz {body : List Stmt} {iter : Expr} {zi : cO} {g : bL} {tb : cp} {pos : Pos} (hp : PassesOwn (model X.prog X.w) X.A X.env X.xe) (hc : X.calm = true) (hi : QI Γ X tg iter zi)
    (CK : ∀ bE : Gz, bE.P = Γ.P → bE.w = Γ.w → bE.K = Γ.K → bE.tb = Γ.tb → QG bE X tg g ∧ lV bE X body tb)
    (hs : ∀ x, foldedSetIterable iter X.env x = pure x := by intro _; rfl) : QS Γ X (.For tg iter body [] pos) (zFor zi g tb) := vt (tb := fun _ => tb) hp hc hi (fun bE M1 _ e1 e2 e3 e4 => CK bE e1 e2 e3 e4) hs
theorem bY {a : Expr} {p pos : Pos} (hg : Gl X "range") (hm : X.mg "range" = none) (ha : QA Γ X [a] pa) (hs : starEach [a] X.env = [(false, eval a X.env)] := by rfl) : QI Γ X tg (.Call (.Name "range" p) [a] [] pos) (ziRng1 pa) := (xH hg hm ha hs).imp fun σ H R h => G0 h
theorem yN {a b : Expr} {p pos : Pos} (hg : Gl X "range") (hm : X.mg "range" = none) (ha : QA Γ X [a, b] pa) (hs : starEach [a, b] X.env = [(false, eval a X.env), (false, eval b X.env)] := by rfl) (iV : starEach [b] X.env = [(false, eval b X.env)] := by rfl) :
    QI Γ X tg (.Call (.Name "range" p) [a, b] [] pos) (ziRng2 pa) := (qw hg hm ha hs iV).imp fun σ H R h => G1 h
noncomputable def yO (c : bS) (tb : cp) : cp := fun D ρ M => ∃ W : Nat → aA → Mh → Prop, (∃ m, W m ρ M) ∧ ∀ m ρ M, W m ρ M →
  c ρ M fun b M1 => if b = true then tb { D with nx := fun bW M' => ∃ m', m' < m ∧ W m' bW M', ct := fun bW M' => ∃ m', m' < m ∧ W m' bW M', bk := D.nx } ρ M1 else D.nx ρ M1
theorem DV {c : bS} {tb : cp} {D : Ends} {σ : St} {H : Hp} (h : lS Γ (yO c tb) D σ H) : xE (lT Γ c) (lS Γ tb) D σ H := by
  obtain ⟨β, ρ, M, D', zr, ⟨W, ⟨m0, w0⟩, turn⟩, r⟩ := h
  refine ⟨fun m aK H' => ∃ bW M', Ev β M H M' H' ∧ Zr Γ β M' bW aK H' ∧ W m bW M', ⟨m0, ρ, M, .refl zr.mz, zr, w0⟩, ?_⟩
  rintro m aK H' ⟨bW, M', x', gw, w'⟩
  refine ⟨β, bW, M', _, gw, turn m bW M' w', fun k M1 H1 x1 h1 => ?_⟩
  have yP := x'.trans x1.ev
  cases k with
  | true =>
    dsimp only at h1 ⊢
    rw [if_pos rfl] at h1 ⊢
    refine ⟨fun oo H2 => ∃ m', m' < m ∧ ∃ j5 M2, Ev β M H M2 H2 ∧ Zr Γ β M2 j5 oo H2 ∧ W m' j5 M2, fun oo H2 h2 => h2, β, bW, M1, _, gw.step x1, h1, ?_⟩
    exact ⟨fun oM M4 yM H4 x4 lg ⟨m', hm, w4⟩ => ⟨m', hm, oM, M4, yP.trans x4, lg, w4⟩, fun d4 M4 v4 H4 x4 e4 r4 h4 => r.rt _ _ _ _ (yP.trans x4) e4 r4 h4, fun oM M4 yM H4 x4 lg h4 => r.nx _ _ _ _ (yP.trans x4) lg h4, fun oM M4 yM H4 x4 lg ⟨m', hm, w4⟩ => ⟨m', hm, oM, M4, yP.trans x4, lg, w4⟩⟩
  | false =>
    dsimp only at h1 ⊢
    rw [if_neg Bool.false_ne_true] at h1 ⊢
    exact r.nx _ _ _ _ yP (gw.step x1) h1
theorem nO {body : List Stmt} {c : Expr} {zc : bS} {tb : cp} {pos : Pos} (hp : PassesOwn (model X.prog X.w) X.A X.env X.xe) (hc : QT Γ X c zc) (hb : lV Γ X body tb) : QS Γ X (.While c body [] pos) (yO zc tb) := (Al hp hc hb).imp fun D σ H h => DV h
theorem dC {g : bL} {tb : cp} {D : gv} (J : Nat → aA → Mh → Prop) {ds : List Dv} {ρ : aA} {M : Mh} (h0 : J 0 ρ M)
    (hs : ∀ i d ρ M (N : aA → Mh → Prop), ds[i]? = some d → J i ρ M → (∀ bW M', J (i + 1) bW M' → N bW M') → g d ρ M fun j5 M2 => tb { D with nx := N, ct := N, bk := D.nx } j5 M2)
    (hd : ∀ ρ M, J ds.length ρ M → D.nx ρ M) : zLoop g tb D ds ρ M := by
  have key : ∀ (n i : Nat) ρ M, n = ds.length - i → i ≤ ds.length → J i ρ M → zLoop g tb D (ds.drop i) ρ M := by
    intro n
    induction n with
    | zero =>
      intro i ρ M e hi h
      have : i = ds.length := by omega
      subst this
      rw [List.drop_length]
      exact hd _ _ h
    | succ n ih =>
      intro i ρ M e hi h
      have bu : i < ds.length := by omega
      rw [List.drop_eq_getElem_cons bu]
      exact hs i _ ρ M _ (List.getElem?_eq_getElem bu) h fun ρ M h => ih (i + 1) ρ M (by omega) bu h
  exact key _ 0 ρ M rfl (Nat.zero_le _) h0
end
section
variable {X : Cx} {Γ : Gz} {β : Bz}
noncomputable def zBlock (tn : Nat) (idx : List Nat) (ρ : aA) : aA := List.replicate tn none ++ idx.map fun i => (ρ[i]?).join
theorem Zr.block {M : Mh} {ρ : aA} {σ : St} {H : Hp} (z : Zr Γ β M ρ σ H) (tn : Nat) (idx : List Nat) : Zr Γ β M (zBlock tn idx ρ) (bj tn idx σ) H := ⟨z.eP, z.ew, z.eK, z.et, z.sub, z.wf, z.ent, z.mz, by simp [zBlock, bj], fun i d e => by
  unfold zBlock at e
  unfold bj
  rw [List.getElem?_append] at e ⊢
  rw [List.length_replicate] at e ⊢
  split at e
  · rw [List.getElem?_replicate] at e
    split at e <;> cases e
  · rename_i hi
    rw [if_neg hi]
    rw [List.getElem?_map] at e ⊢
    cases q : idx[i - tn]? with
    | none => rw [q] at e; cases e
    | some j =>
      rw [q] at e
      have e2 : ρ[j]? = some (some d) := by
        simp only [Option.map_some, Option.some.injEq] at e
        cases q2 : ρ[j]? with
        | none => rw [q2] at e; cases e
        | some o => rw [q2] at e; simp only [Option.join_some] at e; rw [e]
      obtain ⟨v, hv, r⟩ := z.at' j d e2
      exact ⟨v, by simp [hv], r⟩⟩
theorem Zr.enter {M : Mh} {ρ : aA} {σ : St} {H : Hp} {D : Addr} {o : HO} (z : Zr Γ β M ρ σ H) (hD : H D = none) (ho : lQ o = true) : Zr Γ (β.add D) M ρ σ (upd H D o) :=
  ⟨z.eP, z.ew, z.eK, z.et, fun a h => List.mem_cons_of_mem _ (z.sub a h), z.wf, z.ent.over (z.ent.gone hD (by
    cases e : Γ.M0 D with
    | none => rfl
    | some u => have := z.ent.dom D (by rw [e]; rfl); rw [z.mz.free hD] at this; cases this)), z.mz.enter hD ho, z.len, fun i d e => let ⟨v, h, r⟩ := z.at' i d e; ⟨v, h, r.enter hD⟩⟩
theorem Zr.over {M : Mh} {ρ : aA} {σ : St} {H : Hp} {D : Addr} {o : HO} (z : Zr Γ β M ρ σ H) (hD : D ∈ β.hid) (ho : lQ o = true) (hM : M D = none) (ht : D ∉ β.tb) (h0 : Γ.H0 D = none) : Zr Γ β M ρ σ (upd H D o) :=
  ⟨z.eP, z.ew, z.eK, z.et, z.sub, z.wf, z.ent.over h0, z.mz.over hD ho hM ht, z.len, fun i d e => let ⟨v, h, r⟩ := z.at' i d e; ⟨v, h, r.over hD⟩⟩
noncomputable abbrev lh (Γ : Gz) (X : Cx) (ifs : List Expr) (t : bS) : Prop := fX X ifs (lT Γ t)
noncomputable def zNoIf : bS := fun _ M Q => Q true M
theorem bB : lh Γ X [] zNoIf := DG.imp fun σ H Q ⟨β, ρ, M, Q', zr, h, q⟩ => q true M H (.refl zr.mz) h
theorem j6 {c : Expr} {tc : bS} (h : QT Γ X c tc) : lh Γ X [c] tc := DH h
noncomputable def fO (g : bL) (tt : bS) (te : aJ) : List Dv → aA → Mh → (List Dv → Mh → Prop) → Prop
  | [], _, M, Q => Q [] M
  | d :: ds, τ, M, Q => g d τ M fun ay M2 => tt ay M2 fun b M3 => if b = true then te ay M3 fun y M4 => fO g tt te ds ay M4 fun ys M5 => Q (y :: ys) M5 else fO g tt te ds ay M3 Q
structure Acc (Γ : Gz) (β : Bz) (D : Addr) (M1 : Mh) (H1 : Hp) (aR : aA) (M : Mh) (τ : St) (H : Hp) (acc : List V) (aL : List Dv) : Prop where
  ey : Ey M1 H1 M H
  m : M D = none
  zr : Zr Γ (β.add D) M aR τ H
  at' : H D = some (.lst acc)
  rs : aI (β.add D) M H acc aL
  h1 : H1 D = none
  h0 : Γ.H0 D = none
  nt : D ∉ β.tb
theorem Acc.start {D : Addr} {M1 : Mh} {H1 : Hp} {aR : aA} {τ : St} (zr : Zr Γ β M1 aR τ H1) (hD : H1 D = none) : Acc Γ β D M1 H1 aR M1 τ (upd H1 D (.lst [])) [] [] :=
  ⟨Ey.refl.over hD, zr.mz.free hD, zr.enter hD rfl, aM, .nil, hD, zr.ent.gone hD (by
    cases e : Γ.M0 D with
    | none => rfl
    | some u => have := zr.ent.dom D (by rw [e]; rfl); rw [zr.mz.free hD] at this; cases this), zr.mz.A8 hD⟩
section
variable {D : Addr} {M1 M M2 : Mh} {H1 H H2 : Hp} {aR tj : aA} {τ ay : St} {acc : List V} {aL : List Dv}
theorem Acc.step (A : Acc Γ β D M1 H1 aR M τ H acc aL) (x : Ex (β.add D) M H M2 H2) (z : Zr Γ (β.add D) M2 tj ay H2) : Acc Γ β D M1 H1 tj M2 ay H2 acc aL :=
  ⟨A.ey.trans x.toEy, x.new D _ A.m A.at', z, x.get A.m A.at' rfl, A.rs.ex x, A.h1, A.h0, A.nt⟩
theorem Acc.snoc (A : Acc Γ β D M1 H1 aR M τ H acc aL) {y : V} {d : Dv} (r : Rz (β.add D) M H y d) : Acc Γ β D M1 H1 aR M τ (upd H D (.lst (acc ++ [y]))) (acc ++ [y]) (aL ++ [d]) := by
  have hD : D ∈ (β.add D).hid := List.mem_cons_self
  exact ⟨A.ey.over A.h1, A.m, A.zr.over hD rfl A.m A.nt A.h0, aM, ⟨by simp [A.rs.len], fun i v d a b => ((A.rs.snoc r).at' i v d a b).over hD⟩, A.h1, A.h0, A.nt⟩
theorem Acc.fz (A : Acc Γ β D M1 H1 aR M τ H acc aL) (m1 : Mz β M1 H1) : Fz β M D := ⟨A.m, (m1.fz A.h1).2⟩
theorem Acc.mz (A : Acc Γ β D M1 H1 aR M τ H acc aL) : Mz β M H := Mz.sub (β := β.add D) (cI := β) rfl rfl rfl rfl (fun a h => List.mem_cons_of_mem _ h) A.zr.mz
theorem Acc.items (A : Acc Γ β D M1 H1 aR M τ H acc aL) : aI β M H acc aL := ⟨A.rs.len, fun i v d a b => Rz.sub (β := β.add D) (cI := β) rfl rfl rfl (fun a h => List.mem_cons_of_mem _ h) (A.rs.at' i v d a b)⟩
theorem Acc.ex (A : Acc Γ β D M1 H1 aR M τ H acc aL) : Ex β M1 H1 M H := ⟨A.ey, A.mz⟩
end
noncomputable def zComp (tn : Nat) (idx : List Nat) (zi : cO) (g : bL) (tt : bS) (te : aJ) : aJ := fun ρ M Q => zi ρ M fun ds M1 => ds.length < sizeLine ∧ fO g tt te ds (zBlock tn idx ρ) M1 fun ys M2 => Q (.lst ys) M2
noncomputable def zCompP (tn : Nat) (idx : List Nat) (zi : cO) (g : bL) (tt : bS) (te : aJ) : aJ := fun ρ M Q => zi ρ M fun ds M1 => ds.length < sizeLine ∧ fO g tt te ds (zBlock tn idx ρ) M1 fun ys M2 => ∀ a, M2 a = none → Q (.ptr a) (av M2 a (.lst ys))
variable {zi : cO} {g : bL} {tt : bS} {te : aJ} {tn : Nat} {idx : List Nat}
noncomputable def lX (Γ : Gz) (β : Bz) (D : Addr) (M1 : Mh) (H1 : Hp) (g : bL) (tt : bS) (te : aJ) (ds : List Dv) (Q' : List Dv → Mh → Prop) (i m : Nat) (τ : St) (H : Hp) : Prop :=
  m = ds.length - i ∧ i ≤ ds.length ∧ ∃ aR M acc aL, Acc Γ β D M1 H1 aR M τ H acc aL ∧ acc.length ≤ i ∧ fO g tt te (ds.drop i) aR M fun ys M2 => Q' (aL ++ ys) M2
theorem qU {D : Addr} {M1 : Mh} {H1 : Hp} {ds : List Dv} {Q' : List Dv → Mh → Prop} {J : It} (it : yJ β J ds M1 H1) (hlen : ds.length < sizeLine) {i m : Nat} {τ : St} {H : Hp} (w : lX Γ β D M1 H1 g tt te ds Q' i m τ H)
    {C : V → St → Hp → Prop} (hC : ∀ y ay H4 acc, H4 D = some (.lst acc) → acc.length < sizeLine → (∃ m', m' < m ∧ lX Γ β D M1 H1 g tt te ds Q' (i + 1) m' ay (upd H4 D (.lst (acc ++ [y])))) → C y ay H4) :
    (J.stop i H ∧ ∃ aR M acc aL, Acc Γ β D M1 H1 aR M τ H acc aL ∧ acc.length < sizeLine ∧ Q' aL M) ∨
    (J.go i H ∧ ∀ x H', J.yld i H x H' → lG Γ g x τ H' fun ay H2 => lT Γ tt ay H2 fun b H3 => if b = true then lE Γ te ay H3 fun y H4 => C y ay H4 else ∃ m', m' < m ∧ lX Γ β D M1 H1 g tt te ds Q' (i + 1) m' ay H3) := by
  obtain ⟨rfl, hi, aR, M, acc, aL, A, OG, h⟩ := w
  have q := it (β.add D) M H (.add A.h1) A.ey A.zr.mz i
  by_cases bu : i < ds.length
  · refine .inr ⟨(q.1 bu).1, fun x H' y => ?_⟩
    obtain ⟨x2, d, hd, rd⟩ := (q.1 bu).2 x H' y
    have e : ds.drop i = d :: ds.drop (i + 1) := by
      rw [List.drop_eq_getElem_cons bu]
      rw [List.getElem?_eq_getElem bu] at hd
      cases hd
      rfl
    rw [e] at h
    have A2 := A.step x2 (A.zr.step x2)
    refine ⟨β.add D, d, aR, M, _, A2.zr, rd, h, fun eO M3 lj H3 x3 z3 h3 => ?_⟩
    have A3 := A2.step x3 z3
    refine ⟨β.add D, eO, M3, _, z3, h3, fun b M4 H4 x4 h4 => ?_⟩
    have A4 := A3.step x4 (z3.step x4)
    cases b with
    | false =>
      dsimp only at h4 ⊢
      rw [if_neg Bool.false_ne_true] at h4 ⊢
      exact ⟨ds.length - (i + 1), by omega, rfl, bu, eO, M4, acc, aL, A4, by omega, h4⟩
    | true =>
      dsimp only at h4 ⊢
      rw [if_pos rfl] at h4 ⊢
      refine ⟨β.add D, eO, M4, _, A4.zr, h4, fun yd M5 yv H5 x5 r5 h5 => ?_⟩
      have A5 := A4.step x5 (A4.zr.step x5)
      refine hC yv lj H5 acc A5.at' (by omega) ⟨ds.length - (i + 1), by omega, rfl, bu, eO, M5, acc ++ [yv], aL ++ [yd], A5.snoc r5, by simp; omega, ?_⟩
      have e2 : (fun ys M2 => Q' (aL ++ [yd] ++ ys) M2) = fun ys M2 => Q' (aL ++ yd :: ys) M2 := by
        funext ys M2
        rw [List.append_assoc]
        rfl
      rw [e2]
      exact h5
  · have e : i = ds.length := by omega
    subst e
    rw [List.drop_length] at h
    refine .inl ⟨q.2 (Nat.le_refl _), aR, M, acc, aL, A, by omega, ?_⟩
    have h' : Q' (aL ++ []) M := h
    rwa [List.append_nil] at h'
theorem oN {D : Addr} {M1 : Mh} {H1 : Hp} {ds : List Dv} {Q' : List Dv → Mh → Prop} {aR : aA} {τ : St} (zr : Zr Γ β M1 aR τ H1) (hD : H1 D = none) (h : fO g tt te ds aR M1 Q') : lX Γ β D M1 H1 g tt te ds Q' 0 ds.length τ (upd H1 D (.lst [])) :=
  ⟨rfl, Nat.zero_le _, aR, M1, [], [], .start zr hD, Nat.le_refl _, h⟩
theorem yQ {σ : St} {H : Hp} {Q : VK} (h : lE Γ (zComp tn idx zi g tt te) σ H Q) : oB tn idx (lI Γ zi) (lG Γ g) (lT Γ tt) (lE Γ te) σ H Q := by
  obtain ⟨β, ρ, M, Q', zr, h, q⟩ := h
  refine ⟨β, ρ, M, _, zr, h, fun ds M1 H1 J x1 it ⟨hlen, h1⟩ D hD => ?_⟩
  have gM := zr.step x1
  refine ⟨lX Γ β D M1 H1 g tt te ds fun ys M2 => Q' (.lst ys) M2, ⟨_, oN (gM.block tn idx) hD h1⟩, fun i m τ H' w => ?_⟩
  rcases qU it hlen w (C := fun y ay H4 => ∃ ys m', H4 D = some (.lst ys) ∧ ys.length < sizeLine ∧ m' < m ∧ lX Γ β D M1 H1 g tt te ds (fun ys M2 => Q' (.lst ys) M2) (i + 1) m' ay (upd H4 D (.lst (ys ++ [y])))) (fun y ay H4 acc e hl ⟨m', hm, w'⟩ => ⟨acc, m', e, hl, hm, w'⟩) with ⟨hs, aR, M', acc, aL, A, _, hq⟩ | z
  · exact .inl ⟨hs, q _ _ _ _ (x1.trans A.ex) (oI (A.fz gM.mz) A.at' A.items) hq⟩
  · exact .inr z
theorem pS {σ : St} {H : Hp} {Q : VK} (h : lE Γ (zCompP tn idx zi g tt te) σ H Q) : oB tn idx (lI Γ zi) (lG Γ g) (lT Γ tt) (lE Γ te) σ H Q := by
  obtain ⟨β, ρ, M, Q', zr, h, q⟩ := h
  refine ⟨β, ρ, M, _, zr, h, fun ds M1 H1 J x1 it ⟨hlen, h1⟩ D hD => ?_⟩
  have gM := zr.step x1
  refine ⟨lX Γ β D M1 H1 g tt te ds fun ys M2 => ∀ a, M2 a = none → Q' (.ptr a) (av M2 a (.lst ys)), ⟨_, oN (gM.block tn idx) hD h1⟩, fun i m τ H' w => ?_⟩
  rcases qU it hlen w (C := fun y ay H4 => ∃ ys m', H4 D = some (.lst ys) ∧ ys.length < sizeLine ∧ m' < m ∧ lX Γ β D M1 H1 g tt te ds (fun ys M2 => ∀ a, M2 a = none → Q' (.ptr a) (av M2 a (.lst ys))) (i + 1) m' ay (upd H4 D (.lst (ys ++ [y])))) (fun y ay H4 acc e hl ⟨m', hm, w'⟩ => ⟨acc, m', e, hl, hm, w'⟩) with ⟨hs, aR, M', acc, aL, A, _, hq⟩ | z
  · refine .inl ⟨hs, ?_⟩
    have NA : D ∉ β.hid := (A.fz gM.mz).2
    have hM : M' D = none := A.m
    have mz : Mz β (av M' D (.lst aL)) H' := by
      have rz : ∀ {v : V} {d : Dv}, Rz (β.add D) M' H' v d → Rz β (av M' D (.lst aL)) H' v d := fun r => by
        have ne : ∀ a, Fz (β.add D) M' a → Fz β (av M' D (.lst aL)) a := fun a f => ⟨by rw [ao (fun z => f.2 (by rw [z]; exact List.mem_cons_self))]; exact f.1, fun z => f.2 (List.mem_cons_of_mem _ z)⟩
        induction r with
        | int i => exact .int i
        | bl b => exact .bl b
        | au => exact .au
        | str z => exact .str z
        | tup m e hl h ih => exact .tup (ne _ m) e hl ih
        | lst m e hl h ih => exact .lst (ne _ m) e hl ih
        | dk m e hk hl h ih => exact .dk (ne _ m) e hk hl ih
        | dt m e hk hl h ih => exact .dt (ne _ m) e hk hl ih
        | cJ m e m2 e2 hl h ih => exact .cJ (ne _ m) e (ne _ m2) e2 hl ih
        | set m e => exact .set (ne _ m) e
        | ptr m => exact .ptr (by unfold av; split; rfl; exact m)
        | exc m e => exact .exc (ne _ m) e
        | bw m e => exact .bw (ne _ m) e
        | cj m e => exact .cj (ne _ m) e
        | ck e => exact .ck e
        | raw v => exact .raw v
      refine ⟨fun a o e => ?_, A.zr.mz.tabs, fun a ha => A.zr.mz.hids a (List.mem_cons_of_mem _ ha), fun a o e z => ?_, A.zr.mz.lams⟩
      by_cases ha : a = D
      · subst ha
        rw [updM_same] at e
        cases e
        exact ⟨acc, A.at', A.rs.len, fun i v d a b => rz (A.rs.at' i v d a b)⟩
      · rw [ao ha] at e
        have z := A.zr.mz.obj a o e
        cases o with
        | lst ds => obtain ⟨vs, z, l, r⟩ := z; exact ⟨vs, z, l, fun i v d a b => rz (r i v d a b)⟩
        | dk ks ds => obtain ⟨vs, z, hk, l, r⟩ := z; exact ⟨vs, z, hk, l, fun i v d a b => rz (r i v d a b)⟩
        | dt ks ds => obtain ⟨vs, z, hk, l, r⟩ := z; exact ⟨vs, z, hk, l, fun i v d a b => rz (r i v d a b)⟩
        | cH => exact z
      · by_cases ha : a = D
        · subst ha; exact NA z
        · rw [ao ha] at e
          exact A.zr.mz.apart a o e (List.mem_cons_of_mem _ z)
    have ey : Ey M1 H1 (av M' D (.lst aL)) H' := ⟨A.ey.keep, fun a h => by unfold av; split; rfl; exact A.ey.dom a h, fun a o m e => by rw [ao (bh e A.h1)]; exact A.ey.new a o m e⟩
    exact q _ _ _ _ (x1.trans ⟨ey, mz⟩) (.ptr (by rw [updM_same]; rfl)) (hq D hM)
  · exact .inr z
theorem Mi {P : Addr} {zi : cO} {R : It → Hp → Prop} {σ : St} {H : Hp} {ρ : aA} {M : Mh} {R' : List Dv → Mh → Prop} (hP : P ∈ Γ.tb) (zr : Zr Γ β M ρ σ H) (h : zi ρ M R') (q : ∀ ds M' H' J, Ex β M H M' H' → yJ β J ds M' H' → R' ds M' → R J H') : Gh P (lI Γ zi) R σ H := by
  refine ⟨β, ρ, M, _, zr, h, fun ds M1 H1 J x1 it h1 => ?_⟩
  have Ck : P ∈ β.tb := by rw [zr.et]; exact hP
  refine ⟨x1.mz.tabs P Ck, fun ps t => ?_⟩
  have x2 := Ex.grow x1.mz Ck t
  refine q ds M1 _ J (x1.trans x2) (fun cI M' H' bx ey mz => it cI M' H' ⟨bx.P, bx.w, bx.K, bx.tb, bx.old, fun a ha => ?_⟩ (x2.toEy.trans ey) mz) h1
  rcases bx.new a ha with z | z
  · exact .inl z
  · right
    cases e : H1 a with
    | none => rfl
    | some o => obtain ⟨u, hu⟩ := A1 (p := P) (o := .cE ps) ⟨o, e⟩; rw [z] at hu; cases hu
noncomputable def jz (g : bL) (tt : bS) (te : aJ) : List Dv → aA → Mh → (Bool → Mh → Prop) → Prop
  | [], _, M, Q => Q true M
  | d :: ds, τ, M, Q => g d τ M fun ay M2 => tt ay M2 fun b M3 => if b = true then te ay M3 (zBool fun c M4 => if c = false then Q false M4 else jz g tt te ds ay M4 Q) else jz g tt te ds ay M3 Q
noncomputable def zAll (tn : Nat) (idx : List Nat) (zi : cO) (g : bL) (tt : bS) (te : aJ) : aJ := fun ρ M Q => zi ρ M fun ds M1 => jz g tt te ds (zBlock tn idx ρ) M1 fun b M2 => Q (.bl b) M2
theorem Jy {P : Addr} (hP : P ∈ Γ.tb) {σ : St} {H : Hp} {Q : VK} (h : lE Γ (zAll tn idx zi g tt te) σ H Q) : Gj P tn idx (lI Γ zi) (lG Γ g) (lT Γ tt) (lE Γ te) σ H Q := by
  obtain ⟨β, ρ, M, Q', zr, h, q⟩ := h
  refine Mi hP zr h fun ds M1 H1 J x1 it h1 => ?_
  have gM := zr.step x1
  refine ⟨fun i m τ H' => m = ds.length - i ∧ i ≤ ds.length ∧ ∃ aR M', Ex β M1 H1 M' H' ∧ Zr Γ β M' aR τ H' ∧ jz g tt te (ds.drop i) aR M' fun b M2 => Q' (.bl b) M2, ⟨_, rfl, Nat.zero_le _, _, M1, .refl x1.mz, gM.block tn idx, h1⟩, ?_⟩
  rintro i m τ H' ⟨rfl, hi, aR, M', x', gw, h'⟩
  have qq := it β M' H' .refl x'.toEy x'.mz i
  by_cases bu : i < ds.length
  · refine .inr ⟨(qq.1 bu).1, fun x gL y => ?_⟩
    obtain ⟨x2, d, hd, rd⟩ := (qq.1 bu).2 x gL y
    have e : ds.drop i = d :: ds.drop (i + 1) := by
      rw [List.drop_eq_getElem_cons bu]
      rw [List.getElem?_eq_getElem bu] at hd
      cases hd
      rfl
    rw [e] at h'
    refine ⟨β, d, aR, M', _, gw.step x2, rd, h', fun eO M3 lj H3 x3 z3 h3 => ⟨β, eO, M3, _, z3, h3, fun b M4 H4 x4 h4 => ?_⟩⟩
    have G2 := x'.trans (x2.trans (x3.trans x4))
    cases b with
    | false =>
      dsimp only at h4 ⊢
      rw [if_neg Bool.false_ne_true] at h4 ⊢
      exact ⟨ds.length - (i + 1), by omega, rfl, bu, eO, M4, G2, z3.step x4, h4⟩
    | true =>
      dsimp only at h4 ⊢
      rw [if_pos rfl] at h4 ⊢
      refine ⟨β, eO, M4, _, z3.step x4, h4, fun yd M5 yv H5 x5 r5 h5 => ?_⟩
      obtain ⟨k, rfl, h6⟩ := i6 h5
      refine ⟨k, de r5, ?_⟩
      cases k with
      | false =>
        rw [if_pos rfl] at h6 ⊢
        exact q _ _ _ _ (x1.trans (G2.trans x5)) (.bl _) h6
      | true =>
        rw [if_neg (by decide)] at h6 ⊢
        exact ⟨ds.length - (i + 1), by omega, rfl, bu, eO, M5, G2.trans x5, (z3.step x4).step x5, h6⟩
  · have e : i = ds.length := by omega
    subst e
    rw [List.drop_length] at h'
    exact .inl ⟨qq.2 (Nat.le_refl _), q _ _ _ _ (x1.trans x') (.bl _) h'⟩
end
section
variable {X : Cx} {Γ : Gz} {β : Bz} {K : PySem.W.Frag}
noncomputable def zII (f : Int → Int → Dv) : eh := fun d e M Q => match d, e with | .int i, .int j => Q (f i j) M | _, _ => False
noncomputable def zIC (C : Int → Int → Prop) (f : Int → Int → Dv) : eh := fun d e M Q => match d, e with | .int i, .int j => C i j ∧ Q (f i j) M | _, _ => False
theorem lY {g : Int → Int → V} {f : Int → Int → Dv} (h : ∀ β M H i j, Rz β M H (g i j) (f i j)) : ni Γ (qy g) (zII f) := fun β x y d e M H Q Q' _ _ _ m rx ry z q => by
  unfold zII at z
  split at z
  · exact ⟨_, _, aN rx, aN ry, q _ _ _ _ (.refl m) (h ..) z⟩
  · exact z.elim
theorem oO {C : Int → Int → Prop} {g : Int → Int → V} {f : Int → Int → Dv} (h : ∀ β M H i j, Rz β M H (g i j) (f i j)) : ni Γ (rI C g) (zIC C f) := fun β x y d e M H Q Q' _ _ _ m rx ry z q => by
  unfold zIC at z
  split at z
  · exact ⟨_, _, aN rx, aN ry, z.1, q _ _ _ _ (.refl m) (h ..) z.2⟩
  · exact z.elim
theorem fI : eR Γ X (binaryOp .Add) (zII fun i j => .int (i + j)) := ⟨_, FG, lY fun _ _ _ _ _ => .int _⟩
theorem Jz : eR Γ X (binaryOp .Sub) (zII fun i j => .int (i - j)) := ⟨_, FH, lY fun _ _ _ _ _ => .int _⟩
theorem mL : eR Γ X (binaryOp .Mult) (zIC vY fun i j => .int (i * j)) := ⟨_, FI, oO fun _ _ _ _ _ => .int _⟩
theorem yR : eR Γ X (binaryOp .FloorDiv) (zIC FD fun i j => .int (i / j)) := ⟨_, Dw, oO fun _ _ _ _ _ => .int _⟩
theorem iK : eR Γ X (binaryOp .Mod) (zIC (fun _ j => 0 < j) fun i j => .int (i % j)) := ⟨_, FJ, oO fun _ _ _ _ _ => .int _⟩
theorem JA : eR Γ X (binaryOp .Pow) (zIC FE fun i j => .int (i ^ j.toNat)) := ⟨_, FK, oO fun _ _ _ _ _ => .int _⟩
theorem kD : eR Γ X (compareOp .Lt) (zII fun i j => .bl (decide (i < j))) := ⟨_, Jd, lY fun _ _ _ _ _ => .bl _⟩
theorem Bc : eR Γ X (compareOp .LtE) (zII fun i j => .bl (decide (i ≤ j))) := ⟨_, Je, lY fun _ _ _ _ _ => .bl _⟩
theorem Mj : eR Γ X (compareOp .Gt) (zII fun i j => .bl (decide (j < i))) := ⟨_, Jf, lY fun _ _ _ _ _ => .bl _⟩
noncomputable def scalZ (d e : Dv) : Option Bool := match d with
  | .int i => (match e with | .int j => some (decide (i = j)) | .au => some false | .str _ => some false | _ => none)
  | .bl i => (match e with | .bl j => some (decide (i = j)) | .au => some false | .str _ => some false | _ => none)
  | .str i => (match e with | .str j => some (decide (i = j)) | .au => some false | .int _ => some false | .bl _ => some false | _ => none)
  | .au => (match e with | .au => some true | .int _ => some false | .bl _ => some false | .str _ => some false | _ => none)
  | _ => none
noncomputable def zEq : eh := fun d e M Q => match scalZ d e with | some b => Q (.bl b) M | none => False
noncomputable def zNe : eh := fun d e M Q => match scalZ d e with | some b => Q (.bl (!b)) M | none => False
theorem tm {M : Mh} {H : Hp} {x y : V} {d e : Dv} {b : Bool} (rx : Rz β M H x d) (ry : Rz β M H y e) (h : scalZ d e = some b) : Ao x y = true ∧ decide (x = y) = b := by
  unfold scalZ at h
  split at h
  · rw [aN rx]
    split at h <;> cases h
    · rw [aN ry]; exact ⟨rfl, by simp⟩
    · rw [f6 ry]; exact ⟨rfl, by simp⟩
    · rw [ef ry]; exact ⟨rfl, by simp⟩
  · rw [de rx]
    split at h <;> cases h
    · rw [de ry]; exact ⟨rfl, by simp⟩
    · rw [f6 ry]; exact ⟨rfl, by simp⟩
    · rw [ef ry]; exact ⟨rfl, by simp⟩
  · rw [ef rx]
    split at h <;> cases h
    · rw [ef ry]; exact ⟨rfl, by simp⟩
    · rw [f6 ry]; exact ⟨rfl, by simp⟩
    · rw [aN ry]; exact ⟨rfl, by simp⟩
    · rw [de ry]; exact ⟨rfl, by simp⟩
  · rw [f6 rx]
    split at h <;> cases h
    · rw [f6 ry]; exact ⟨rfl, by simp⟩
    · rw [aN ry]; exact ⟨rfl, by simp⟩
    · rw [de ry]; exact ⟨rfl, by simp⟩
    · rw [ef ry]; exact ⟨rfl, by simp⟩
  · cases h
theorem kG : eR Γ X (compareOp .Eq) zEq := ⟨_, Jb, fun β x y d e M H Q Q' _ _ _ m rx ry z q => by
  unfold zEq at z
  split at z
  · rename_i b hb
    obtain ⟨h1, h2⟩ := tm rx ry hb
    exact ⟨h1, by rw [h2]; exact q _ _ _ _ (.refl m) (.bl _) z⟩
  · exact z.elim⟩
theorem tq : eR Γ X (compareOp .NotEq) zNe := ⟨_, Jc, fun β x y d e M H Q Q' _ _ _ m rx ry z q => by
  unfold zNe at z
  split at z
  · rename_i b hb
    obtain ⟨h1, h2⟩ := tm rx ry hb
    exact ⟨h1, by rw [h2]; exact q _ _ _ _ (.refl m) (.bl _) z⟩
  · exact z.elim⟩
noncomputable def isNonD : Dv → Option Bool
  | .au => some true
  | .raw _ => none
  | _ => some false
theorem yS {M : Mh} {H : Hp} {x : V} {d : Dv} {b : Bool} (r : Rz β M H x d) (h : isNonD d = some b) : decide (x = .au) = b := by
  cases r <;> simp [isNonD] at h ⊢ <;> exact h
noncomputable def zIsN (neg : Bool) : eh := fun d e M Q => match e, isNonD d with | .au, some b => Q (.bl (if neg then !b else b)) M | _, _ => False
theorem rR : eR Γ X (compareOp .Is) (zIsN false) := ⟨_, FL, fun β x y d e M H Q Q' _ _ _ m rx ry z q => by
  unfold zIsN at z
  split at z
  · rename_i b hb
    exact ⟨f6 ry, by rw [yS rx hb]; exact q _ _ _ _ (.refl m) (.bl _) z⟩
  · exact z.elim⟩
noncomputable def zSS (C : Str → Str → Prop) (f : Str → Str → Dv) : eh := fun d e M Q => match d, e with | .str i, .str j => C i j ∧ Q (f i j) M | _, _ => False
mutual
noncomputable def bM : Dv → Option Dt
  | .int i => some (.int i)
  | .bl b => some (.bl b)
  | .au => some .au
  | .str z => some (.str z)
  | .tup ds => (fJ ds).map .tup
  | .lst ds => (fJ ds).map .lst
  | _ => none
noncomputable def fJ : List Dv → Option (List Dt)
  | [] => some []
  | d :: ds => match bM d, fJ ds with | some a, some as => some (a :: as) | _, _ => none
end
theorem kI : ∀ {ds : List Dv} {ts : List Dt}, fJ ds = some ts → ds.length = ts.length ∧ ∀ (i : Nat) (d : Dv) (t : Dt), ds[i]? = some d → ts[i]? = some t → bM d = some t
  | [], ts, h => by simp only [fJ, Option.some.injEq] at h; subst h; exact ⟨rfl, fun i d t a => by simp at a⟩
  | d :: ds, ts, h => by
    simp only [fJ] at h
    split at h
    · rename_i a as h1 h2
      cases h
      obtain ⟨hl, q⟩ := kI h2
      refine ⟨by simp [hl], fun i e t x y => ?_⟩
      cases i with
      | zero => simp at x y; subst x y; exact h1
      | succ i => rw [List.getElem?_cons_succ] at x y; exact q i e t x y
    · cases h
theorem yT {M : Mh} {H : Hp} {v : V} {d : Dv} (h : Rz β M H v d) : ∀ {t : Dt}, bM d = some t → dB H v t := by
  induction h with
  | int i => intro t e; simp only [bM, Option.some.injEq] at e; subst e; exact .int i
  | bl b => intro t e; simp only [bM, Option.some.injEq] at e; subst e; exact .bl b
  | au => intro t e; simp only [bM, Option.some.injEq] at e; subst e; exact .au
  | str z => intro t e; simp only [bM, Option.some.injEq] at e; subst e; exact .str z
  | tup m e hl h ih =>
    intro t q
    simp only [bM, Option.map_eq_some_iff] at q
    obtain ⟨ts, q, rfl⟩ := q
    obtain ⟨l2, at2⟩ := kI q
    refine .tup e (hl.trans l2) fun i x d hx hd => ?_
    have hi := (List.getElem?_eq_some_iff.mp hd).1
    have := List.getElem?_eq_getElem (l := _) (i := i) (show i < _ from l2 ▸ hi)
    exact ih i x _ hx this (at2 i _ _ this hd)
  | lst m e hl h ih =>
    intro t q
    simp only [bM, Option.map_eq_some_iff] at q
    obtain ⟨ts, q, rfl⟩ := q
    obtain ⟨l2, at2⟩ := kI q
    refine .lst e (hl.trans l2) fun i x d hx hd => ?_
    have hi := (List.getElem?_eq_some_iff.mp hd).1
    have := List.getElem?_eq_getElem (l := _) (i := i) (show i < _ from l2 ▸ hi)
    exact ih i x _ hx this (at2 i _ _ this hd)
  | set m e => intro t q; simp [bM] at q
  | ptr m => intro t q; simp [bM] at q
  | exc m e => intro t q; simp [bM] at q
  | bw m e => intro t q; simp [bM] at q
  | cj m e => intro t q; simp [bM] at q
  | ck e => intro t q; simp [bM] at q
  | dk m e hk hl h ih => intro t q; simp [bM] at q
  | dt m e hk hl h ih => intro t q; simp [bM] at q
  | cJ m e m2 e2 hl h ih => intro t q; simp [bM] at q
  | raw v => intro t q; simp [bM] at q
noncomputable def now (M : Mh) : Dv → Dv
  | .ptr a => match M a with | some (.lst ds) => .lst ds | _ => .ptr a
  | d => d
theorem mM {M : Mh} {H : Hp} {v : V} {d : Dv} (m : Mz β M H) (h : Rz β M H v d) {t : Dt} (e : bM (now M d) = some t) : dB H v t := by
  cases d with
  | ptr a =>
    simp only [now] at e
    obtain ⟨rfl, hs⟩ := bD h
    cases q : M a with
    | none => rw [q] at hs; cases hs
    | some o =>
      rw [q] at e
      cases o with
      | cH => simp [bM] at e
      | dk ks es => simp [bM] at e
      | dt ks es => simp [bM] at e
      | lst ds =>
        obtain ⟨vs, hv, rs⟩ := m.obj a _ q
        simp only [bM, Option.map_eq_some_iff] at e
        obtain ⟨ts, q, rfl⟩ := e
        obtain ⟨l2, at2⟩ := kI q
        refine .lst hv (rs.len.trans l2) fun i x d hx hd => ?_
        have hi := (List.getElem?_eq_some_iff.mp hd).1
        have := List.getElem?_eq_getElem (l := _) (i := i) (show i < _ from l2 ▸ hi)
        exact yT (rs.at' i x _ hx this) (at2 i _ _ this hd)
  | _ => exact yT h e
noncomputable def nP (neg : Bool) : eh := fun d e M Q => match bM (now M d), bM (now M e) with | some a, some b => il a ≤ 60 ∧ Q (.bl (if neg then !cy a b else cy a b)) M | _, _ => False
theorem DW {neg : Bool} : ni Γ (Gw neg) (nP neg) := fun β x y d e M H Q Q' _ _ _ m rx ry z q => by
  unfold nP at z
  split at z
  · rename_i a b h1 h2
    exact ⟨a, b, mM m rx h1, mM m ry h2, z.1, q _ _ _ _ (.refl m) (.bl _) z.2⟩
  · exact z.elim
theorem oP (hu : X.A.units + 64 < cLine) : eR Γ X (compareOp .Eq) (nP false) := ⟨_, Gx hu, DW⟩
noncomputable def itemsM (M : Mh) : Dv → Option (List Dv)
  | .tup ds => some ds
  | .lst ds => some ds
  | .ptr a => match M a with | some (.lst ds) => some ds | _ => none
  | _ => none
theorem gS {M : Mh} {H : Hp} {x : V} {d : Dv} {ds : List Dv} (m : Mz β M H) (r : Rz β M H x d) (h : itemsM M d = some ds) : ∃ a vs, x = .ref a ∧ (H a = some (.lst vs) ∨ H a = some (.tup vs)) ∧ aI β M H vs ds := by
  cases d with
  | tup es => cases h; obtain ⟨a, vs, e, _, h, rs⟩ := bX r; exact ⟨a, vs, e, .inr h, rs⟩
  | lst es => cases h; obtain ⟨a, vs, e, _, h, rs⟩ := cT r; exact ⟨a, vs, e, .inl h, rs⟩
  | ptr a =>
    obtain ⟨rfl, hs⟩ := bD r
    simp only [itemsM] at h
    split at h
    · rename_i es q
      cases h
      obtain ⟨vs, hv, rs⟩ := m.obj a _ q
      exact ⟨a, vs, rfl, .inl hv, rs⟩
    · cases h
  | _ => cases h
theorem DX {M : Mh} {H : Hp} {vs : List V} {ds : List Dv} (rs : aI β M H vs ds) {i : Int} {d : Dv} (h : c6 ds i = some d) : ∃ v, c6 vs i = some v ∧ Rz β M H v d := by
  unfold c6 at h ⊢
  rw [rs.len]
  cases e : ig ds.length i with
  | none => rw [e] at h; cases h
  | some j =>
    rw [e] at h
    obtain ⟨v, hv, r⟩ := rs.get (i := j) (d := d) h
    exact ⟨v, hv, r⟩
noncomputable def G3 (Γ : Gz) (X : Cx) (z : eh) : Prop := ∃ r, lB X r ∧ ni Γ r z
noncomputable def zIx : eh := fun d e M Q => match e with
  | .int i => (match d with
    | .str z => z.length ≤ sizeLine ∧ (match c6 z.cps.toList i with | some c => Q (.str ⟨#[c]⟩) M | none => False)
    | _ => match itemsM M d with | some ds => (match c6 ds i with | some r => Q r M | none => False) | none => False)
  | _ => False
theorem dq (hK : X.K = K) : G3 Γ X zIx := ⟨_, vk hK, fun β x y d e M H Q Q' _ _ _ m rx ry z q => by
  unfold zIx at z
  split at z
  · rename_i i
    have hy := aN ry
    split at z
    · rename_i s
      obtain ⟨hz, z⟩ := z
      split at z
      · rename_i c hc
        exact .inr (.inr ⟨s, i, c, ef rx, hy, hz, hc, q _ _ _ _ (.refl m) (.str _) z⟩)
      · exact z.elim
    · split at z
      · rename_i ds nj
        obtain ⟨a, vs, rfl, ha, rs⟩ := gS m rx nj
        split at z
        · rename_i r hr
          obtain ⟨v, hv, rv⟩ := DX rs hr
          have z' := q _ _ _ _ (.refl m) rv z
          rcases ha with ha | ha
          · exact .inl ⟨a, vs, i, v, rfl, hy, bH.of ha, hv, z'⟩
          · exact .inr (.inl ⟨a, vs, i, v, rfl, hy, cN.of ha, hv, z'⟩)
        · exact z.elim
      · exact z.elim
  · exact z.elim⟩
theorem b0 {a b : Expr} {pa pb : aJ} {z : eh} {pos : Pos} (hr : G3 Γ X z) (ha : QE Γ X a pa) (hb : QE Γ X b pb) (hs : vj b) : QE Γ X (.Subscript a b pos) (zOp z pa pb) := by
  obtain ⟨r, h1, h2⟩ := hr
  exact (Jh h1 ha hb hs).imp fun σ H Q h => wy h2 h
end
section
variable {X : Cx} {Γ : Gz} {β : Bz} {K : PySem.W.Frag}
section
variable {x : Str} {p pos : Pos} {e : Expr} {es : List Expr} {za : eX} {id T : String} {z : qT}
theorem az (hc : fH Γ X (.builtin id) z) (hg : Gl X x) (hm : X.mg x = none) (hv : bootBuiltins x = some (.builtin id)) (ha : QA Γ X (e :: es) za) (hn : x ≠ "__name__" := by decide) (iX : (x == ("__debug__" : Str)) = false := by decide)
    (he : starEach (e :: es) X.env = (false, eval e X.env) :: starEach es X.env := by rfl) (fV : (backTo pos (starEach es X.env)).any (·.1) = false := by rfl) : QE Γ X (.Call (.Name x p) (e :: es) [] pos) (zCB z za) := by
  obtain ⟨r, h1, h2⟩ := hc
  exact (Ax h1 hg hm hv ha hn iX he fV).imp fun σ H Q h => GZ h2 h
theorem lZ (hc : fH Γ X (.type T) z) (hg : Gl X x) (hm : X.mg x = none) (hv : bootBuiltins x = some (.type T)) (ha : QA Γ X (e :: es) za) (hn : x ≠ "__name__" := by decide) (iX : (x == ("__debug__" : Str)) = false := by decide)
    (he : starEach (e :: es) X.env = (false, eval e X.env) :: starEach es X.env := by rfl) (fV : (backTo pos (starEach es X.env)).any (·.1) = false := by rfl) : QE Γ X (.Call (.Name x p) (e :: es) [] pos) (zCB z za) := by
  obtain ⟨r, h1, h2⟩ := hc
  exact (xS h1 hg hm hv ha hn iX he fV).imp fun σ H Q h => GZ h2 h
end
noncomputable def z1 (f : Dv → Mh → ZK → Prop) : qT := fun ds M Q => match ds with | [d] => f d M Q | _ => False
noncomputable def zLenD (d : Dv) (M : Mh) (Q : ZK) : Prop := match d with
  | .str s => s.length ≤ sizeLine ∧ Q (.int s.length) M
  | .bw ns => Q (.int ns.length) M
  | _ => match itemsM M d with | some ds => Q (.int ds.length) M | none => False
theorem eB (hK : X.K = K) (hG : K = Γ.K) : fH Γ X (.builtin "len") (z1 zLenD) := ⟨_, yl hK, fun β xs ds M H Q Q' _ _ eK m rs z q => by
  rw [← hG] at eK
  unfold z1 at z
  split at z
  · rename_i d
    obtain ⟨x, rfl, r⟩ := dw rs
    unfold zLenD at z
    split at z
    · rename_i s
      have e := ef r
      subst e
      exact ⟨_, _, rfl, ⟨z.1, rfl⟩, q _ _ _ _ (.refl m) (.int _) z.2⟩
    · rename_i ns
      obtain ⟨a, rfl, h⟩ := qS r
      rw [eK] at h
      exact ⟨_, ns.length, rfl, .inl ⟨_, h, by simp⟩, q _ _ _ _ (.refl m) (.int _) z⟩
    · split at z
      · rename_i ds nj
        obtain ⟨a, vs, rfl, ha, cf⟩ := gS m r nj
        have q' := q _ _ (.int ds.length) _ (.refl m) (.int _) z
        rcases ha with ha | ha
        · exact ⟨_, ds.length, rfl, .inl ⟨vs, bH.of ha, cf.len.symm⟩, q'⟩
        · exact ⟨_, ds.length, rfl, .inr ⟨vs, cN.of ha, cf.len.symm⟩, q'⟩
      · exact z.elim
  · exact z.elim⟩
noncomputable def z2I (f : Int → Int → Int) : qT := fun ds M Q => match ds with | [.int i, .int j] => Q (.int (f i j)) M | _ => False
theorem yU (hc : X.calm = true) : fH Γ X (.builtin "max") (z2I fun i j => if j > i then j else i) := ⟨_, xM hc, fun β xs ds M H Q Q' _ _ _ m rs z q => by
  unfold z2I at z
  split at z
  · obtain ⟨x, y, rfl, r, r'⟩ := gR rs
    rw [aN r, aN r']
    exact ⟨_, _, rfl, q _ _ _ _ (.refl m) (.int _) z⟩
  · exact z.elim⟩
theorem tu (hc : X.calm = true) : fH Γ X (.builtin "min") (z2I fun i j => if j < i then j else i) := ⟨_, xN hc, fun β xs ds M H Q Q' _ _ _ m rs z q => by
  unfold z2I at z
  split at z
  · obtain ⟨x, y, rfl, r, r'⟩ := gR rs
    rw [aN r, aN r']
    exact ⟨_, _, rfl, q _ _ _ _ (.refl m) (.int _) z⟩
  · exact z.elim⟩
noncomputable def zAbs (d : Dv) (M : Mh) (Q : ZK) : Prop := match d with | .int i => Q (.int (if i < 0 then -i else i)) M | _ => False
theorem JB : fH Γ X (.builtin "abs") (z1 zAbs) := ⟨_, Au, fun β xs ds M H Q Q' _ _ _ m rs z q => by
  unfold z1 at z
  split at z
  · obtain ⟨x, rfl, r⟩ := dw rs
    unfold zAbs at z
    split at z
    · rw [aN r]
      exact ⟨_, rfl, q _ _ _ _ (.refl m) (.int _) z⟩
    · exact z.elim
  · exact z.elim⟩
noncomputable def zListP (d : Dv) (M : Mh) (Q : ZK) : Prop := match itemsM M d with | some ds => ∀ a, M a = none → Q (.ptr a) (av M a (.lst ds)) | none => False
theorem DY (hK : X.K = K) : fH Γ X (.type "list") (z1 zListP) := ⟨_, rE hK, fun β xs ds M H Q Q' _ _ _ m rs z q => by
  unfold z1 at z
  split at z
  · obtain ⟨x, rfl, r⟩ := dw rs
    unfold zListP at z
    split at z
    · rename_i ds nj
      obtain ⟨a, vs, rfl, ha, cf⟩ := gS m r nj
      refine ⟨a, vs, rfl, ha.imp bH.of cN.of, fun l hl => ?_⟩
      have x2 := Ex.own m (.inr hl) cf
      exact q _ _ _ _ x2 (.ptr (by rw [updM_same]; rfl)) (z l (m.free hl))
    · exact z.elim
  · exact z.elim⟩
noncomputable def zTuple (d : Dv) (M : Mh) (Q : ZK) : Prop := match itemsM M d with | some ds => Q (.tup ds) M | none => False
theorem vw (hK : X.K = K) : fH Γ X (.type "tuple") (z1 zTuple) := ⟨_, pP hK, fun β xs ds M H Q Q' _ _ _ m rs z q => by
  unfold z1 at z
  split at z
  · rename_i d
    obtain ⟨x, rfl, r⟩ := dw rs
    unfold zTuple at z
    split at z
    · rename_i ds nj
      obtain ⟨a, vs, rfl, ha, cf⟩ := gS m r nj
      refine ⟨a, vs, rfl, ?_⟩
      rcases ha with ha | ha
      · refine .inl ⟨bH.of ha, fun l hl => ?_⟩
        have x2 := Ex.lay m hl (.tup vs)
        exact q _ _ _ _ x2 (oH (m.fz hl) aM (cf.ex x2)) z
      · refine .inr ⟨cN.of ha, ?_⟩
        have f : Fz β M a := by
          cases d with
          | tup es => obtain ⟨b, us, e, f, _⟩ := bX r; cases e; exact f
          | lst es => obtain ⟨b, us, e, f, _⟩ := cT r; cases e; exact f
          | ptr b =>
            obtain ⟨e, hs⟩ := bD r
            cases e
            cases q2 : M a with
            | none => rw [q2] at hs; cases hs
            | some o => have := m.lR ha rfl; rw [q2] at this; cases this
          | _ => cases nj
        exact q _ _ _ _ (.refl m) (oH f ha cf) z
    · exact z.elim
  · exact z.elim⟩
noncomputable def jA : List Dv → Option (List Int)
  | [] => some []
  | .int i :: ds => (jA ds).map (i :: ·)
  | _ :: _ => none
theorem tD : ∀ {ds : List Dv} {ns : List Int}, jA ds = some ns → ds = ns.map Dv.int
  | [], ns, h => by simp only [jA, Option.some.injEq] at h; subst h; rfl
  | d :: ds, ns, h => by
    cases d with
    | int i =>
      simp only [jA, Option.map_eq_some_iff] at h
      obtain ⟨ms, h, rfl⟩ := h
      rw [tD h]
      rfl
    | _ => simp [jA] at h
theorem qV : ∀ ns : List Int, jA (ns.map Dv.int) = some ns
  | [] => rfl
  | n :: ns => by simp [jA, qV ns]
theorem nQ {M : Mh} {H : Hp} : ∀ {vs : List V} {ns : List Int}, aI β M H vs (ns.map Dv.int) → vs = ns.map V.int
  | [], [], _ => rfl
  | [], _ :: _, r => absurd r.len (by simp)
  | _ :: _, [], r => absurd r.len (by simp)
  | v :: vs, n :: ns, r => by
    rw [List.map_cons] at r
    rw [List.map_cons, aN r.head, nQ r.tail]
theorem tE {M : Mh} {H : Hp} : ∀ {ns : List Int}, aI β M H (ns.map V.int) (ns.map Dv.int)
  | [] => .nil
  | n :: ns => .cons (.int _) tE
noncomputable def isD (T : String) (M : Mh) (d : Dv) : Option Bool := match d with
  | .int _ => some (T == "int") | .bl _ => some (T == "int" || T == "bool") | .au => some false | .str _ => some (T == "str") | .tup _ => some (T == "tuple") | .lst _ => some (T == "list") | .ptr a => (match M a with | some (.lst _) => some (T == "list") | some .cH => some (T == "list") | some _ => some false | none => none) | _ => none
noncomputable def pT : List String := ["int", "bool", "str", "tuple", "list"]
noncomputable def zIsInst : qT := fun ds M Q => match ds with | [d, .raw (.ty T)] => T ∈ pT ∧ (match isD T M d with | some b => Q (.bl b) M | none => False) | _ => False
theorem G4 {K : PySem.W.Frag} {M : Mh} {H : Hp} {x : V} {d : Dv} {T : String} {b : Bool} (m : Mz β M H) (hT : T ∈ pT) (r : Rz β M H x d) (h : isD T M d = some b) : ∃ t, fL K H x t ∧ PySem.W.kitOne K t (.type T) = some b := by
  have nq : T = "int" ∨ T = "bool" ∨ T = "str" ∨ T = "tuple" ∨ T = "list" := by simpa [pT] using hT
  cases r with
  | int i => cases h; exact ⟨_, .int i, by rcases nq with rfl | rfl | rfl | rfl | rfl <;> rfl⟩
  | bl i => cases h; exact ⟨_, .bl i, by rcases nq with rfl | rfl | rfl | rfl | rfl <;> rfl⟩
  | au => cases h; exact ⟨_, .au, by rcases nq with rfl | rfl | rfl | rfl | rfl <;> rfl⟩
  | str i => cases h; exact ⟨_, .str i, by rcases nq with rfl | rfl | rfl | rfl | rfl <;> rfl⟩
  | tup f e hl q => cases h; exact ⟨_, .tup e, by rcases nq with rfl | rfl | rfl | rfl | rfl <;> rfl⟩
  | lst f e hl q => cases h; exact ⟨_, .lst e, by rcases nq with rfl | rfl | rfl | rfl | rfl <;> rfl⟩
  | ptr hs =>
    rename_i a
    cases q2 : M a with
    | none => rw [q2] at hs; cases hs
    | some o =>
      simp only [isD, q2] at h
      have q := m.obj a o q2
      cases o with
      | lst ds => obtain ⟨vs, e, _⟩ := q; cases h; exact ⟨_, .lst e, by rcases nq with rfl | rfl | rfl | rfl | rfl <;> rfl⟩
      | cH => obtain ⟨_, _, e, _⟩ := q; cases h; exact ⟨_, .lst e, by rcases nq with rfl | rfl | rfl | rfl | rfl <;> rfl⟩
      | dk ks ds => obtain ⟨vs, e, _⟩ := q; cases h; exact ⟨_, .dK e, by rcases nq with rfl | rfl | rfl | rfl | rfl <;> rfl⟩
      | dt ks ds => obtain ⟨vs, e, _⟩ := q; cases h; exact ⟨_, .dT e, by rcases nq with rfl | rfl | rfl | rfl | rfl <;> rfl⟩
  | set f e => cases h
  | exc f e => cases h
  | bw f e => cases h
  | cj f e => cases h
  | ck e => cases h
  | raw v => cases h
  | dk f e _ _ _ => cases h
  | dt f e _ _ _ => cases h
  | cJ _ _ _ _ _ _ => cases h
theorem aV (hK : X.K = K) : fH Γ X (.builtin "isinstance") zIsInst := ⟨_, sM hK, fun β xs ds M H Q Q' _ _ _ m rs z q => by
  unfold zIsInst at z
  split at z
  · obtain ⟨x, y, rfl, r, r'⟩ := gR rs
    rw [yI r']
    obtain ⟨hT, z⟩ := z
    split at z
    · rename_i b hb
      obtain ⟨t, ht, hk⟩ := G4 (K := K) m hT r hb
      exact ⟨_, _, t, b, rfl, ht, hk, q _ _ _ _ (.refl m) (.bl _) z⟩
    · exact z.elim
  · exact z.elim⟩
noncomputable abbrev ll := Dv → List Dv → Mh → ZK → Prop
noncomputable def nu (Γ : Gz) (X : Cx) (T id : String) (K : PySem.W.Frag) (z : ll) : Prop := ∃ r, so X id r ∧ ∀ (β : Bz) x xs d ds M H Q Q', β.P = Γ.P → β.w = Γ.w → β.K = Γ.K → Mz β M H → Rz β M H x d → aI β M H xs ds → z d ds M Q' → (∀ d' M' v H', Ex β M H M' H' → Rz β M' H' v d' → Q' d' M' → Q v H') → r x xs H Q
noncomputable def tyZ (T : String) (M : Mh) : Dv → Prop
  | .ptr a => match M a with | some (.lst _) => T = "list" | some .cH => T = "list" | some (.dk _ _) => T = "dict" | some (.dt _ _) => T = "dict" | none => False
  | .lst _ => T = "list"
  | .tup _ => T = "tuple"
  | .str _ => T = "str"
  | _ => False
theorem yV {M : Mh} {H : Hp} {x : V} {d : Dv} {T : String} (m : Mz β M H) (r : Rz β M H x d) (h : tyZ T M d) : Cj K T x H := by
  cases r with
  | str => exact h
  | lst f e _ _ => exact .inl ⟨h, _, bH.of e⟩
  | tup f e _ _ => exact .inr (.inl ⟨h, .inr ⟨_, e⟩⟩)
  | ptr hs =>
    rename_i a
    cases q2 : M a with
    | none => rw [q2] at hs; cases hs
    | some o =>
      simp only [tyZ, q2] at h
      have q := m.obj a o q2
      cases o with
      | lst ds => obtain ⟨vs, e, _⟩ := q; exact .inl ⟨h, _, bH.of e⟩
      | cH => obtain ⟨_, _, e, _⟩ := q; exact .inl ⟨h, _, bH.of e⟩
      | dk ks ds => obtain ⟨vs, e, _⟩ := q; exact .inr (.inr (.inl ⟨h, .inl ⟨_, e⟩⟩))
      | dt ks ds => obtain ⟨vs, e, _⟩ := q; exact .inr (.inr (.inl ⟨h, .inr ⟨_, e⟩⟩))
  | _ => exact h.elim
noncomputable def zBM (T : String) (z : ll) (po : aJ) (pa : eX) : aJ := fun ρ M Q => po ρ M fun d M1 => tyZ T M1 d ∧ pa ρ M1 fun ds M2 => z d ds M2 Q
section
variable {o e : Expr} {es : List Expr} {po : aJ} {pa : eX} {name : Str} {apos aO : Pos} {T id : String} {z : ll}
theorem mO (h : X.K = K) (pat : PlainAttrs T) (slot : Slot T name id) (iZ : typeOf (.builtin id) = pure (.type "method_descriptor")) (hm : nu Γ X T id K z) (ho : QE Γ X o po) (ha : QA Γ X (e :: es) pa) (ej : attributeBase o name X.env (eval o X.env) = eval o X.env := by rfl)
    (kf : ((backTo aO (starEach (e :: es) X.env)).all (fun x => !x.1) && (backToKw aO (keywordEach [] X.env)).all (fun x => x.1.isSome)
      && decide ((e :: es).length + ([] : List Keyword).length + (if ([] : List Keyword).isEmpty then 0 else 1) < 30)) = true := by rfl)
    (hline : (apos.endLine == aO.line) = true := by rfl) (hs : starEach (e :: es) X.env = (false, eval e X.env) :: starEach es X.env := by rfl) (gh : (backTo aO (starEach es X.env)).any (·.1) = false := by rfl) :
    QE Γ X (.Call (.Attribute o name apos) (e :: es) [] aO) (zBM T z po pa) := by
  obtain ⟨r, h1, h2⟩ := hm
  exact (Gs h pat slot iZ h1 ho ha ej kf hline hs gh).imp fun σ H Q ⟨β, ρ, M, Q', zr, h, q⟩ => ⟨β, ρ, M, _, zr, h, fun d M1 v H1 x1 r1 ⟨ht, h1⟩ => ⟨yV x1.mz r1 ht, β, ρ, M1, _, zr.step x1, h1, fun ds M2 vs H2 x2 r2 h3 =>
    h2 β v vs d ds M2 H2 _ _ zr.eP zr.ew zr.eK x2.mz (r1.ex x2) r2 h3 fun d' M' v' H' x3 r3 q3 => q _ _ _ _ (x1.trans (x2.trans x3)) r3 q3⟩⟩
theorem yW (h : X.K = K) (pat : PlainAttrs T) (slot : Slot T name id) (iZ : typeOf (.builtin id) = pure (.type "method_descriptor")) (hm : nu Γ X T id K z) (ho : QE Γ X o po) (ej : attributeBase o name X.env (eval o X.env) = eval o X.env := by rfl) (hline : (apos.endLine == aO.line) = true := by rfl) :
    QE Γ X (.Call (.Attribute o name apos) [] [] aO) (zBM T z po zNil) := by
  obtain ⟨r, h1, h2⟩ := hm
  exact (DJ h pat slot iZ h1 ho ej hline).imp fun σ H Q ⟨β, ρ, M, Q', zr, h, q⟩ => ⟨β, ρ, M, _, zr, h, fun d M1 v H1 x1 r1 ⟨ht, h1⟩ => ⟨yV x1.mz r1 ht,
    h2 β v [] d [] M1 H1 _ _ zr.eP zr.ew zr.eK x1.mz r1 .nil h1 fun d' M' v' H' x3 r3 q3 => q _ _ _ _ (x1.trans x3) r3 q3⟩⟩
end
noncomputable def zAppend : ll := fun d ds M Q => match d, ds with | .ptr a, [y] => (match M a with | some (.lst xs) => xs.length < sizeLine ∧ Q .au (av M a (.lst (xs ++ [y]))) | _ => False) | _, _ => False
theorem nR : nu Γ X "list" "list.append" K zAppend := ⟨_, jt, fun β x xs d ds M H Q Q' _ _ _ m r rs z q => by
  unfold zAppend at z
  split at z
  · rename_i a y
    split at z
    · rename_i es he
      obtain ⟨e, hs⟩ := bD r
      obtain ⟨v, e2, rv⟩ := dw rs
      subst e e2
      obtain ⟨vs, hv, cf⟩ := m.obj a _ he
      refine ⟨a, vs, v, rfl, rfl, hv, by rw [cf.len]; exact z.1, ?_⟩
      exact q _ _ _ _ (Ex.own m (.inl hs) (cf.snoc rv)) .au z.2
    · exact z.elim
  · exact z.elim⟩
noncomputable def zExtend : ll := fun d ds M Q => match d, ds with | .ptr a, [y] => (match M a, itemsM M y with | some (.lst xs), some ys => (∀ t, y ≠ .tup t) ∧ xs.length + ys.length ≤ sizeLine ∧ Q .au (av M a (.lst (xs ++ ys))) | _, _ => False) | _, _ => False
theorem Bd : nu Γ X "list" "list.extend" K zExtend := ⟨_, xV, fun β x xs d ds M H Q Q' _ _ _ m r rs z q => by
  unfold zExtend at z
  split at z
  · rename_i a y
    split at z
    · rename_i es ys he hy
      obtain ⟨e, hs⟩ := bD r
      obtain ⟨v, e2, rv⟩ := dw rs
      subst e e2
      obtain ⟨vs, hv, cf⟩ := m.obj a _ he
      obtain ⟨b, us, rfl, hb, KJ⟩ := gS m rv hy
      have jB : H b = some (.lst us) := by
        rcases hb with hb | hb
        · exact hb
        · exfalso
          cases y with
          | tup t => exact z.1 t rfl
          | lst t => obtain ⟨c, _, e, _, h, _⟩ := cT rv; cases e; rw [hb] at h; cases h
          | ptr c =>
            obtain ⟨e, hs⟩ := bD rv
            cases e
            cases q2 : M b with
            | none => rw [q2] at hs; cases hs
            | some o => have := m.lR hb rfl; rw [q2] at this; cases this
          | _ => cases hy
      refine ⟨a, b, vs, us, rfl, rfl, hv, jB, by rw [cf.len, KJ.len]; exact z.2.1, ?_⟩
      exact q _ _ _ _ (Ex.own m (.inl hs) (cf.append KJ)) .au z.2.2
    · exact z.elim
  · exact z.elim⟩
noncomputable def zPop : ll := fun d ds M Q => match d, ds with | .ptr a, [] => (match M a with | some (.lst xs) => (match xs[xs.length - 1]? with | some y => Q y (av M a (.lst xs.dropLast)) | none => False) | _ => False) | _, _ => False
theorem aI.dropLast {M : Mh} {H : Hp} {vs : List V} {ds : List Dv} (h : aI β M H vs ds) : aI β M H vs.dropLast ds.dropLast := by
  rw [List.dropLast_eq_take, List.dropLast_eq_take, h.len]
  exact h.take _
theorem JC : nu Γ X "list" "list.pop" K zPop := ⟨_, F5, fun β x xs d ds M H Q Q' _ _ _ m r rs z q => by
  unfold zPop at z
  split at z
  · rename_i a
    split at z
    · rename_i es he
      split at z
      · rename_i y hy
        obtain ⟨e, hs⟩ := bD r
        have e2 : xs = [] := List.length_eq_zero_iff.mp rs.len
        subst e e2
        obtain ⟨vs, hv, cf⟩ := m.obj a _ he
        obtain ⟨v, nv, rv⟩ := cf.get hy
        rw [← cf.len] at nv
        refine ⟨a, vs, v, rfl, rfl, hv, nv, ?_⟩
        have x2 := Ex.own m (.inl hs) cf.dropLast
        exact q _ _ _ _ x2 (rv.ex x2) z
      · exact z.elim
    · exact z.elim
  · exact z.elim⟩
noncomputable def zPopAt : ll := fun d ds M Q => match d, ds with | .ptr a, [.int i] => (match M a with | some (.lst xs) => -(2 ^ 63) ≤ i ∧ i < 2 ^ 63 ∧ (match seqIndex? i xs.length with | some k => (match xs[k]? with | some y => Q y (av M a (.lst (xs.eraseIdx k))) | none => False) | none => False) | _ => False) | _, _ => False
theorem aI.eraseIdx {M : Mh} {H : Hp} {vs : List V} {ds : List Dv} (h : aI β M H vs ds) (k : Nat) : aI β M H (vs.eraseIdx k) (ds.eraseIdx k) := by
  rw [List.eraseIdx_eq_take_drop_succ, List.eraseIdx_eq_take_drop_succ]
  exact (h.take _).append (h.drop _)
theorem DZ : nu Γ X "list" "list.pop" K zPopAt := ⟨_, Az, fun β x xs d ds M H Q Q' _ _ _ m r rs z q => by
  unfold zPopAt at z
  split at z
  · rename_i a i
    split at z
    · rename_i es he
      obtain ⟨b1, b2, z⟩ := z
      split at z
      · rename_i k hk
        split at z
        · rename_i y hy
          obtain ⟨e, hs⟩ := bD r
          obtain ⟨v0, e2, NB⟩ := dw rs
          subst e e2
          rw [aN NB]
          obtain ⟨vs, hv, cf⟩ := m.obj a _ he
          obtain ⟨v, nv, rv⟩ := cf.get hy
          refine ⟨a, vs, i, k, v, rfl, rfl, hv, b1, b2, by rw [cf.len]; exact hk, nv, ?_⟩
          have x2 := Ex.own m (.inl hs) (cf.eraseIdx k)
          exact q _ _ _ _ x2 (rv.ex x2) z
        · exact z.elim
      · exact z.elim
    · exact z.elim
  · exact z.elim⟩
noncomputable def zSetI : Dv → Dv → Dv → Mh → (Mh → Prop) → Prop := fun o i v M N => match o, i with | .ptr a, .int k => (match M a with | some (.lst xs) => (match ig xs.length k with | some j => N (av M a (.lst (xs.set j v))) | none => False) | _ => False) | _, _ => False
noncomputable def zgSub (po pi : aJ) : bL := fun d ρ M N => po ρ M fun o M1 => pi ρ M1 fun i M2 => zSetI o i d M2 fun M3 => N ρ M3
theorem j7 {o i : Expr} {po pi : aJ} {pos : Pos} (ho : QE Γ X o po) (hi : QE Γ X i pi)
    (ha : ∀ v, assign (.Subscript o i pos) X.env v = (do
      let ov ← holding [v] (eval o X.env)
      let iv ← holding [v, ov] (eval i X.env)
      standAt pos
      holding [v, ov, iv] (setItem ov iv v)
      release [v, ov, iv] []) := by intro _; rfl) : QG Γ X (.Subscript o i pos) (zgSub po pi) :=
  (Fq ho hi set_list ha).imp fun v σ H N ⟨β, d, ρ, M, N', zr, r, h, q⟩ => ⟨β, ρ, M, _, zr, h, fun od M1 ov H1 x1 r1 h1 => ⟨β, ρ, M1, _, zr.step x1, h1, fun OU M2 iv H2 x2 r2 h2 => by
    unfold zSetI at h2
    split at h2
    · rename_i a k
      split at h2
      · rename_i es he
        split at h2
        · rename_i j hj
          obtain ⟨e, hs⟩ := bD (r1.ex x2)
          subst e
          rw [aN r2]
          obtain ⟨vs, hv, cf⟩ := x2.mz.obj a _ he
          have x3 := Ex.own x2.mz (.inl hs) (cf.set j ((r.ex x1).ex x2))
          exact ⟨a, vs, k, j, rfl, rfl, hv, by rw [cf.len]; exact hj, q _ _ _ _ (x1.trans (x2.trans x3)) (((zr.step x1).step x2).step x3) h2⟩
        · exact h2.elim
      · exact h2.elim
    · exact h2.elim⟩⟩
end
end L2
namespace L2
open PySem PySem.Spec PySem.W PyProof.Rows
noncomputable abbrev ZX := Addr → Mh → Prop
noncomputable abbrev cU := List Dv → Mh → ZK → ZX → Prop
noncomputable def aT (P : Program) (w : World) (K : PySem.W.Frag) (tb : da) (S : cU) : Sp := fun vs H Q E => ∃ (β : Bz) (ds : List Dv) (M : Mh) (Q' : ZK) (E' : ZX), β.P = P ∧ β.w = w ∧ β.K = K ∧ β.tb = tb ∧ Mz β M H ∧ aI β M H vs ds ∧ S ds M Q' E' ∧
  (∀ d M' v H', Ex β M H M' H' → Rz β M' H' v d → Q' d M' → Q v H') ∧ ∀ C M' H', Ex β M H M' H' → E' C M' → E (.ref C) none H'
theorem Rz.mP {β : Bz} {M0 M : Mh} {H : Hp} (dom : ∀ a, (M0 a).isSome = true → (M a).isSome = true) {v : V} {d : Dv} (h : Rz β M H v d) : Pin M0 d → Rz β M0 H v d := by
  have ne : ∀ a, Fz β M a → Fz β M0 a := fun a m => ⟨(by
    cases e : M0 a with
    | none => rfl
    | some o => have := dom a (by rw [e]; rfl); rw [m.1] at this; cases this), m.2⟩
  induction h with
  | int i => exact fun _ => .int i
  | bl b => exact fun _ => .bl b
  | au => exact fun _ => .au
  | str z => exact fun _ => .str z
  | tup m e hl h ih =>
    intro p
    cases p with
    | tup p => exact .tup (ne _ m) e hl fun i v d a b => ih i v d a b (p d (List.mem_of_getElem? b))
  | lst m e hl h ih =>
    intro p
    cases p with
    | lst p => exact .lst (ne _ m) e hl fun i v d a b => ih i v d a b (p d (List.mem_of_getElem? b))
  | set m e => exact fun _ => .set (ne _ m) e
  | ptr m => intro p; cases p with | ptr p => exact .ptr p
  | exc m e => exact fun _ => .exc (ne _ m) e
  | bw m e => exact fun _ => .bw (ne _ m) e
  | cj m e => exact fun _ => .cj (ne _ m) e
  | ck e => exact fun _ => .ck e
  | dk m e hk hl h ih =>
    intro p
    cases p with
    | dk p => exact .dk (ne _ m) e hk hl fun i v d a b => ih i v d a b (p d (List.mem_of_getElem? b))
  | dt m e hk hl h ih =>
    intro p
    cases p with
    | dt p => exact .dt (ne _ m) e hk hl fun i v d a b => ih i v d a b (p d (List.mem_of_getElem? b))
  | cJ m e m2 e2 hl h ih =>
    intro p
    cases p with
    | cJ p => exact .cJ (ne _ m) e (ne _ m2) e2 hl fun i v d a b => ih i v d a b (p d (List.mem_of_getElem? b))
  | raw v => exact fun _ => .raw v
inductive lq (M0 M : Mh) : Dv → Dv → Prop where
  | pin {d : Dv} (h : Pin M0 d) : lq M0 M d d
  | ptr {a : Addr} {ds fZ : List Dv} (h0 : M0 a = none) (h : M a = some (.lst ds)) (hl : ds.length = fZ.length) (r : ∀ (i : Nat) (d d' : Dv), ds[i]? = some d → fZ[i]? = some d' → lq M0 M d d') : lq M0 M (.ptr a) (.lst fZ)
  | tup {ds fZ : List Dv} (hl : ds.length = fZ.length) (r : ∀ (i : Nat) (d d' : Dv), ds[i]? = some d → fZ[i]? = some d' → lq M0 M d d') : lq M0 M (.tup ds) (.tup fZ)
  | dk {a : Addr} {ks : List Key} {ds fZ : List Dv} (h0 : M0 a = none) (h : M a = some (.dk ks ds)) (hl : ds.length = fZ.length) (r : ∀ (i : Nat) (d d' : Dv), ds[i]? = some d → fZ[i]? = some d' → lq M0 M d d') : lq M0 M (.ptr a) (.dk ks fZ)
  | dt {a : Addr} {ks : List (List Key)} {ds fZ : List Dv} (h0 : M0 a = none) (h : M a = some (.dt ks ds)) (hl : ds.length = fZ.length) (r : ∀ (i : Nat) (d d' : Dv), ds[i]? = some d → fZ[i]? = some d' → lq M0 M d d') : lq M0 M (.ptr a) (.dt ks fZ)
theorem lq.rz {β : Bz} {M0 M : Mh} {H : Hp} (mz : Mz β M H) (dom : ∀ a, (M0 a).isSome = true → (M a).isSome = true) {d d' : Dv} (h : lq M0 M d d') : ∀ {v : V}, Rz β M H v d → Rz β M0 H v d' := by
  induction h with
  | pin h => exact fun r => r.mP dom h
  | ptr h0 h hl r ih =>
    intro v r
    obtain ⟨rfl, _⟩ := bD r
    obtain ⟨vs, hv, rs⟩ := mz.obj _ _ h
    refine .lst ⟨h0, mz.apart _ _ h⟩ hv (rs.len.trans hl) fun i v d a b => ?_
    obtain ⟨d0, q, rd⟩ := rs.get' a
    exact ih i d0 d q b rd
  | dk h0 h hl r ih =>
    intro v r
    obtain ⟨rfl, _⟩ := bD r
    obtain ⟨vs, hv, hk, rs⟩ := mz.obj _ _ h
    refine .dk ⟨h0, mz.apart _ _ h⟩ (.inl hv) hk (rs.len.trans hl) fun i v d a b => ?_
    obtain ⟨d0, q, rd⟩ := rs.get' a
    exact ih i d0 d q b rd
  | dt h0 h hl r ih =>
    intro v r
    obtain ⟨rfl, _⟩ := bD r
    obtain ⟨vs, hv, hk, rs⟩ := mz.obj _ _ h
    refine .dt ⟨h0, mz.apart _ _ h⟩ (.inl hv) hk (rs.len.trans hl) fun i v d a b => ?_
    obtain ⟨d0, q, rd⟩ := rs.get' a
    exact ih i d0 d q b rd
  | tup hl r ih =>
    intro v r
    obtain ⟨a, vs, rfl, f, hv, rs⟩ := bX r
    refine .tup ⟨?_, f.2⟩ hv (rs.len.trans hl) fun i v d a b => ?_
    · cases e : M0 a with
      | none => rfl
      | some o => have := dom a (by rw [e]; rfl); rw [f.1] at this; cases this
    · obtain ⟨d0, q, rd⟩ := rs.get' a
      exact ih i d0 d q b rd
noncomputable def jS (M0 : Mh) (Q : ZK) : ZK := fun d M => Q d M ∨ ((∀ a o, M0 a = some o → M a = some o) ∧ ∃ d', lq M0 M d d' ∧ Q d' M0)
theorem vy {β : Bz} {M0 M : Mh} {H0 H : Hp} {Q' : ZK} {Q : VK} (m0 : Mz β M0 H0) (q : ∀ d M' v H', Ex β M0 H0 M' H' → Rz β M' H' v d → Q' d M' → Q v H') {d : Dv} {v : V} (x : Ex β M0 H0 M H) (r : Rz β M H v d) (h : jS M0 Q' d M) : Q v H := by
  rcases h with h | ⟨same, d', rv, h⟩
  · exact q _ _ _ _ x r h
  · refine q d' M0 v H ⟨⟨x.keep, fun _ h => h, fun _ _ h _ => h⟩, fun a o e => ?_, x.mz.tabs, x.mz.hids, m0.apart, x.mz.lams⟩ (rv.rz x.mz x.dom r) h
    have z := x.mz.obj a o (same a o e)
    have z0 := m0.obj a o e
    cases o with
    | lst ds =>
      obtain ⟨vs, z, rs⟩ := z
      obtain ⟨KL, _, yX⟩ := z0
      refine ⟨vs, z, rs.len, fun i v d a b => (rs.at' i v d a b).mP x.dom ?_⟩
      obtain ⟨v0, _, r0⟩ := yX.get b
      exact r0.pin
    | dk ks ds =>
      obtain ⟨vs, z, hk, rs⟩ := z
      obtain ⟨KL, _, _, yX⟩ := z0
      refine ⟨vs, z, hk, rs.len, fun i v d a b => (rs.at' i v d a b).mP x.dom ?_⟩
      obtain ⟨v0, _, r0⟩ := yX.get b
      exact r0.pin
    | dt ks ds =>
      obtain ⟨vs, z, hk, rs⟩ := z
      obtain ⟨KL, _, _, yX⟩ := z0
      refine ⟨vs, z, hk, rs.len, fun i v d a b => (rs.at' i v d a b).mP x.dom ?_⟩
      obtain ⟨v0, _, r0⟩ := yX.get b
      exact r0.pin
    | cH => exact z
noncomputable def zstart (N : List Str) (ds : List Dv) : aA := ds.map some ++ List.replicate (N.length - ds.length) none
theorem tF {Γ : Gz} {N : List Str} {vs : List V} {ds : List Dv} (m : Mz Γ.toBz Γ.M0 Γ.H0) (rs : aI Γ.toBz Γ.M0 Γ.H0 vs ds) : Zr Γ Γ.toBz Γ.M0 (zstart N ds) (start N vs) Γ.H0 := ⟨rfl, rfl, rfl, rfl, fun _ h => h, m.wf, .refl, m, by simp [zstart, start, rs.len], fun i d e => by
  unfold zstart at e
  unfold start
  rw [List.getElem?_append] at e ⊢
  rw [List.length_map] at e ⊢
  rw [rs.len]
  split at e
  · rename_i hi
    rw [if_pos hi]
    rw [List.getElem?_map, Option.map_eq_some_iff] at e
    obtain ⟨d2, e, e2⟩ := e
    cases e2
    obtain ⟨v, hv, r⟩ := rs.get e
    exact ⟨v, by rw [List.getElem?_map, hv]; rfl, r⟩
  · rw [List.getElem?_replicate] at e
    split at e <;> cases e⟩
noncomputable def zEndsOf (M0 : Mh) (Q : ZK) : gv := { nx := fun _ M => jS M0 Q .au M, rt := jS M0 Q }
noncomputable def XR (Γ : Gz) (E' : ZX) (E : XK) : Prop := ∀ C M' H', Ex Γ.toBz Γ.M0 Γ.H0 M' H' → E' C M' → E (.ref C) none H'
section
variable {P : Program} {w : World} {K : PySem.W.Frag} {mg : Str → Option Value} {base : Heap} {tb : da} {x : Str} {st : Stmt} {f : Addr} {fd : FuncData} {N ps : List Str} {k : Nat} {S : cU}
theorem vz (len : ∀ ds M Q E, S ds M Q E → ds.length = ps.length) : ∀ vs H Q E, aT P w K tb S vs H Q E → vs.length = ps.length := fun vs H Q E hS => by
  obtain ⟨β, ds, M, Q', E', _, _, _, _, m, rs, s, _⟩ := hS
  exact rs.len.trans (len _ _ _ _ s)
theorem dS (D : Df K mg x st ps f fd) (sc : aU N ps (aj st)) (len : ∀ ds M Q E, S ds M Q E → ds.length = ps.length)
    (body : ∀ (A : Around) (outer : List Env) (s : Shared) (E : XK) (Γ : Gz) (ds : List Dv) (Q' : ZK) (E' : ZX), P = Γ.P → w = Γ.w → K = Γ.K → tb = Γ.tb → cF k (A.deeper (envOfC x (aj st) s.heap.objs.size f fd.code)) → S ds Γ.M0 Q' E' →
      ∃ p, lV Γ (fM bc P w K mg base N x (aj st) f fd.code A outer s Γ.H0 E).xD (dr st) p ∧ p (zEndsOf Γ.M0 Q') (zstart N ds) Γ.M0) : FnOk P w K mg base bc (k + 1) f fd ps (aT P w K tb S) := by
  refine D.fn.MZ sc (vz len) fun A outer s H vs Q E hr h => ?_
  obtain ⟨β, ds, M, Q', E', eP, ew, eK, et, m, rs, hS, q, _⟩ := h
  obtain ⟨p, hp, hq⟩ := body A outer s E ⟨β, M, H⟩ ds Q' E' eP.symm ew.symm eK.symm et.symm hr hS
  refine ⟨_, hp, β, zstart N ds, M, zEndsOf M Q', tF (Γ := ⟨β, M, H⟩) m rs, hq, ?_⟩
  have fin : ∀ d M' v H', Ex β M H M' H' → Rz β M' H' v d → jS M Q' d M' → Q v H' := fun d M' v H' x r h => vy m q x r h
  exact ⟨fun bW M' aK H' x zr h => fin _ _ _ _ ⟨zr.ent, x.mz⟩ .au h, fun d M' v H' x e r h => fin _ _ _ _ ⟨e, x.mz⟩ r h, fun _ _ _ _ _ _ h => h, fun _ _ _ _ _ _ h => h⟩
end
section
variable {P : Program} {w : World} {K : PySem.W.Frag} {mg : Str → Option Value} {base : Heap} {tb : da} {x : Str} {st : Stmt} {f : Addr} {fd : FuncData} {N ps : List Str} {k : Nat} {S : cU}
theorem wz (D : Df K mg x st ps f fd) (sc : aU N ps (aj st)) (len : ∀ ds M Q E, S ds M Q E → ds.length = ps.length)
    (body : ∀ (A : Around) (outer : List Env) (s : Shared) (E : XK) (Γ : Gz) (ds : List Dv) (Q' : ZK) (E' : ZX), P = Γ.P → w = Γ.w → K = Γ.K → tb = Γ.tb → XR Γ E' E → cF k (A.deeper (envOfC x (aj st) s.heap.objs.size f fd.code)) → S ds Γ.M0 Q' E' →
      ∃ p, lV Γ (fM (fy P w) P w K mg base N x (aj st) f fd.code A outer s Γ.H0 E) (dr st) p ∧ p (zEndsOf Γ.M0 Q') (zstart N ds) Γ.M0) : FnOk P w K mg base (fy P w) (k + 1) f fd ps (aT P w K tb S) := by
  refine D.fn.yi sc (vz len) fun A outer s H vs Q E hr h => ?_
  obtain ⟨β, ds, M, Q', E', eP, ew, eK, et, m, rs, hS, q, qx⟩ := h
  obtain ⟨p, hp, hq⟩ := body A outer s E ⟨β, M, H⟩ ds Q' E' eP.symm ew.symm eK.symm et.symm qx hr hS
  refine ⟨_, hp, β, zstart N ds, M, zEndsOf M Q', tF (Γ := ⟨β, M, H⟩) m rs, hq, ?_⟩
  have fin : ∀ d M' v H', Ex β M H M' H' → Rz β M' H' v d → jS M Q' d M' → Q v H' := fun d M' v H' x r h => vy m q x r h
  exact ⟨fun bW M' aK H' x zr h => fin _ _ _ _ ⟨zr.ent, x.mz⟩ .au h, fun d M' v H' x e r h => fin _ _ _ _ ⟨e, x.mz⟩ r h, fun _ _ _ _ _ _ h => h, fun _ _ _ _ _ _ h => h⟩
end
section
variable {X : Cx} {Γ : Gz} {β : Bz} {K : PySem.W.Frag}
noncomputable def zCall (S : cU) (E' : ZX) (za : eX) : aJ := fun ρ M Q => za ρ M fun ds M1 => S ds M1 Q E'
theorem XR.none : XR Γ (fun _ _ => False) (fun _ _ _ => False) := fun _ _ _ _ h => h
theorem yY {M M1 M2 : Mh} {H H1 H2 : Hp} (ent : Ey M H M1 H1) (sub : ∀ a, a ∈ Γ.hid → a ∈ β.hid) (eP : β.P = Γ.P) (ew : β.w = Γ.w) (eK : β.K = Γ.K) (et : β.tb = Γ.tb) (x : Ex β M1 H1 M2 H2) : Ex Γ.toBz M H M2 H2 := ⟨ent.trans x.toEy, x.mz.sub eP.symm ew.symm eK.symm et.symm sub⟩
section
variable {CX : js} {k : Nat} {f : Addr} {fd : FuncData} {ps : List Str} {S : cU} {E : XK} {E' : ZX} {x : Str} {p pos : Pos} {e : Expr} {es : List Expr} {za : eX} {P : Program} {w : World} {tb : da}
theorem G5 (hP : P = Γ.P) (hw : w = Γ.w) (hK : K = Γ.K) (ht : tb = Γ.tb) (hE : XR Γ E' E) {σ : St} {H : Hp} {Q : VK} (h : lE Γ (zCall S E' za) σ H Q) : Cg (aT P w K tb S) [] E (lA Γ za) σ H Q := by
  subst hP hw hK ht
  obtain ⟨β, ρ, M, Q', zr, h, q⟩ := h
  refine ⟨β, ρ, M, _, zr, h, fun ds M1 vs H1 x1 r1 h1 => ?_⟩
  show aT Γ.P Γ.w Γ.K Γ.tb S (vs ++ []) H1 Q E
  rw [List.append_nil]
  exact ⟨β, ds, M1, Q', E', zr.eP, zr.ew, zr.eK, zr.et, x1.mz, r1, h1, fun d M2 v H2 x2 r2 h2 => q _ _ _ _ (x1.trans x2) r2 h2, fun C M2 H2 x2 h2 => hE C M2 H2 (yY zr.ent zr.sub zr.eP zr.ew zr.eK zr.et (x1.trans x2)) h2⟩
theorem aH (F : FnOk X.prog X.w X.K X.mg X.base CX k f fd ps (aT P w K tb S)) (hr : cF k X.A) (hg : Gl X x) (hm : X.mg x = some (.ref f)) (hk : PySem.W.keepIn X.K (.ref f) = true) (hb : Binds X.K fd ps []) (hx : Passes CX X E) (hP : P = Γ.P) (hw : w = Γ.w) (hK : K = Γ.K) (ht : tb = Γ.tb) (hE : XR Γ E' E)
    (ha : QA Γ X (e :: es) za) (iX : (x == ("__debug__" : Str)) = false := by decide) (he : starEach (e :: es) X.env = (false, eval e X.env) :: starEach es X.env := by rfl) (fV : (backTo pos (starEach es X.env)).any (·.1) = false := by rfl) :
    QE Γ X (.Call (.Name x p) (e :: es) [] pos) (zCall S E' za) := (DB F hr hg hm hk hb .nil hx ha iX he fV).imp fun σ H Q h => G5 hP hw hK ht hE h
end
noncomputable def zRaise (C : Addr) (E' : ZX) (za : eX) : cp := fun _ ρ M => za ρ M fun ds M1 => ds.length ≤ sizeLine ∧ E' C M1
theorem Be {x : Str} {C : Addr} {jQ : Expr} {rest : List Expr} {za : eX} {qN : List Value} {B newId sP : String} {E : XK} {E' : ZX} {np aO pos : Pos} (O : PySem.W.excIn X.K C qN newId = true) (FB : ExcBaseFacts B newId sP qN) (hc : X.calm = true) (hR : Raises X E) (hE : XR Γ E' E) (hg : Gl X x) (hm : X.mg x = some (.ref C)) (ha : QA Γ X (jQ :: rest) za)
    (iX : (x == ("__debug__" : Str)) = false := by decide) (he : starEach (jQ :: rest) X.env = (false, eval jQ X.env) :: starEach rest X.env := by rfl) (fV : (backTo aO (starEach rest X.env)).any (·.1) = false := by rfl) :
    QS Γ X (.Raise (some (.Call (.Name x np) (jQ :: rest) [] aO)) none pos) (zRaise C E' za) := (AJ O FB hc hR hg hm ha iX he fV).imp fun D σ H ⟨β, ρ, M, D', zr, h, r⟩ => ⟨β, ρ, M, _, zr, h, fun ds M1 vs H1 x1 r1 h1 =>
  ⟨by rw [r1.len]; exact h1.1, hE C M1 H1 (yY zr.ent zr.sub zr.eP zr.ew zr.eK zr.et x1) h1.2⟩⟩
section
variable {tg elt iter : Expr} {ifs : List Expr} {scope : Scope} {pos : Pos} {N' : List Str} {tn : Nat} {idx : List Nat} {zi : cO} {g : bL} {tt : bS} {te : aJ} {c P : Addr} {k : Nat}
theorem bq (hc : X.calm = true) (B : aB X.N X.env.scope scope N' tn idx) (hi : QI Γ X tg iter zi)
    (hg : Blk X N' scope fun Y => QG Γ Y tg g) (ht : Blk X N' scope fun Y => lh Γ Y ifs tt) (he : Blk X N' scope fun Y => QE Γ Y elt te)
    (hs : ∀ x, foldedSetIterable iter X.env x = pure x := by intro _; rfl) : QE Γ X (.ListComp elt [⟨tg, iter, ifs, 0⟩] scope pos) (zComp tn idx zi g tt te) := (m7 hc B hi hg ht he hs).imp fun σ H Q h => yQ h
theorem gA (hc : X.calm = true) (B : aB X.N X.env.scope scope N' tn idx) (hi : QI Γ X tg iter zi)
    (hg : Blk X N' scope fun Y => QG Γ Y tg g) (ht : Blk X N' scope fun Y => lh Γ Y ifs tt) (he : Blk X N' scope fun Y => QE Γ Y elt te)
    (hs : ∀ x, foldedSetIterable iter X.env x = pure x := by intro _; rfl) : QE Γ X (.ListComp elt [⟨tg, iter, ifs, 0⟩] scope pos) (zCompP tn idx zi g tt te) := (m7 hc B hi hg ht he hs).imp fun σ H Q h => pS h
theorem wA {i : Nat} {y : Str} {py dR : Pos} (hN : X.N.Nodup) (c9 : X.N[i]? = some y) (hy : X.env.scope.names.lookup y = some .local) (hc : X.calm = true) (B : aB X.N X.env.scope scope N' tn idx) (hi : QI Γ X tg iter zi)
    (hg : Blk X N' scope fun Y => QG Γ Y tg g) (ht : Blk X N' scope fun Y => lh Γ Y ifs tt) (he : Blk X N' scope fun Y => QE Γ Y elt te)
    (jW : swapsWith (.ListComp elt [⟨tg, iter, ifs, 0⟩] scope pos) (some (.Name y py)) dR.line X.env = pure true := by rfl)
    (hs : ∀ x, foldedSetIterable iter X.env x = pure x := by intro _; rfl) : QS Γ X (.Assign [.Name y py] (.ListComp elt [⟨tg, iter, ifs, 0⟩] scope pos) dR) (zAsg (zComp tn idx zi g tt te) (zgName i)) := (oC hN c9 hy hc B hi hg ht he jW hs).imp fun D σ H h => oK (fun _ _ _ h => yQ h) h
theorem uO {i : Nat} {y : Str} {py dR : Pos} (hN : X.N.Nodup) (c9 : X.N[i]? = some y) (hy : X.env.scope.names.lookup y = some .local) (hc : X.calm = true) (B : aB X.N X.env.scope scope N' tn idx) (hi : QI Γ X tg iter zi)
    (hg : Blk X N' scope fun Y => QG Γ Y tg g) (ht : Blk X N' scope fun Y => lh Γ Y ifs tt) (he : Blk X N' scope fun Y => QE Γ Y elt te)
    (jW : swapsWith (.ListComp elt [⟨tg, iter, ifs, 0⟩] scope pos) (some (.Name y py)) dR.line X.env = pure true := by rfl)
    (hs : ∀ x, foldedSetIterable iter X.env x = pure x := by intro _; rfl) : QS Γ X (.Assign [.Name y py] (.ListComp elt [⟨tg, iter, ifs, 0⟩] scope pos) dR) (zAsg (zCompP tn idx zi g tt te) (zgName i)) := (oC hN c9 hy hc B hi hg ht he jW hs).imp fun D σ H h => oK (fun _ _ _ h => pS h) h
theorem yZ {p sH : Pos} (hP : P ∈ Γ.tb) (hr : cF (k + 1) X.A) (hc : X.calm = true) (B : aB X.N X.env.scope scope N' tn idx)
    (h0 : scope.names.lookup (".0" : Str) = some .local) (qJ : scope.isCoroutine = false) (oF : X.env.code = .ref c) (hd : PySem.W.CodeHd X.base c P) (jw : ∃ bm ob, BMod X.base mainGlobals X.mg bm ob)
    (qK : Gl X "all") (hm : X.mg "all" = none) (hi : QI Γ X tg iter zi) (hg : nM X N' scope k fun Y => QG Γ Y tg g) (ht : nM X N' scope k fun Y => lh Γ Y ifs tt) (he : nM X N' scope k fun Y => QE Γ Y elt te)
    (hs : ∀ x, genFold iter X.env x = pure x := by intro _; rfl) : QE Γ X (.Call (.Name "all" p) [eA elt tg iter ifs scope sH] [] pos) (zAll tn idx zi g tt te) := (Gk hr hc B h0 qJ oF hd jw qK hm hi hg ht he hs).imp fun σ H Q h => Jy hP h
end
end
section
variable {X : Cx} {Γ : Gz} {β : Bz} {K : PySem.W.Frag}
section
variable {tg elt iter : Expr} {ifs : List Expr} {scope : Scope} {pos : Pos} {N' : List Str} {tn : Nat} {idx : List Nat} {zi : cO} {g : bL} {tt : bS} {te : aJ} {c P : Addr} {k : Nat}
noncomputable def CL (g : bL) (tt : bS) (te : aJ) : List Dv → aA → Mh → (List Int → Mh → Prop) → List Int → Prop
  | [], _, M, Q, acc => Q acc M
  | d :: ds, τ, M, Q, acc => g d τ M fun ay M2 => tt ay M2 fun b M3 => if b = true then te ay M3 fun y M4 => (match y with | .int k => acc.length + 1 < scanBound ∧ CL g tt te ds ay M4 Q (L8 acc k) | _ => False) else CL g tt te ds ay M3 Q acc
end
noncomputable def bP (xs ys : List Dv) : List Dv := (xs.zip ys).map fun p => .tup [p.1, p.2]
noncomputable def jb (n : Nat) : List Dv := (List.range n).map fun i => .int (i : Nat)
theorem l0 {J : It} {vs us : List V} {ds es : List Dv} {M : Mh} {H : Hp} (r : aI β M H vs ds) (r2 : aI β M H us es) (h : ∀ M' H', Ey M H M' H' → wo J (vs.zip us) H') : yJ β J (bP ds es) M H := fun cI M' H' bx x m i => by
  have q := h M' H' x i
  have hl : (bP ds es).length = (vs.zip us).length := by simp [bP, r.len, r2.len]
  rw [hl]
  refine ⟨fun hi => ⟨(q.1 hi).1, fun v gL y => ?_⟩, q.2⟩
  obtain ⟨t, p, ht, rfl, hp, rfl⟩ := (q.1 hi).2 v gL y
  rw [List.getElem?_zip_eq_some] at hp
  obtain ⟨d, hd, rd⟩ := r.get' hp.1
  obtain ⟨e, he, re⟩ := r2.get' hp.2
  have x2 := Ex.lay m ht (.tup [p.1, p.2])
  refine ⟨x2, .tup [d, e], ?_, oH (m.fz ht) aM (.cons (((rd.bx bx).ey x).ex x2) (.cons (((re.bx bx).ey x).ex x2) .nil))⟩
  unfold bP
  rw [List.getElem?_map, Option.map_eq_some_iff]
  exact ⟨(d, e), by rw [List.getElem?_zip_eq_some]; exact ⟨hd, he⟩, rfl⟩
theorem enum_zip (vs : List V) : ((List.range vs.length).map fun i => (V.int (i : Nat), vs.getD i .au)) = ((List.range vs.length).map fun i => V.int (i : Nat)).zip vs := by
  refine List.ext_getElem? fun i => ?_
  by_cases hi : i < vs.length
  · rw [List.getElem?_map, List.getElem?_range hi]
    symm
    show _ = some (V.int (i : Nat), vs.getD i .au)
    rw [List.getElem?_zip_eq_some, List.getElem?_map, List.getElem?_range hi, List.getD_eq_getElem?_getD, List.getElem?_eq_getElem hi]
    exact ⟨rfl, rfl⟩
  · rw [List.getElem?_eq_none_iff.mpr (by simp; omega), List.getElem?_eq_none_iff.mpr (by simp; omega)]
theorem pU {n : Nat} {M : Mh} {H : Hp} : aI β M H ((List.range n).map fun i => V.int (i : Nat)) (jb n) := ⟨by simp [jb], fun i v d a b => by
  unfold jb at b
  rw [List.getElem?_map] at a b
  cases e : (List.range n)[i]? with
  | none => rw [e] at a; cases a
  | some c => rw [e] at a b; cases a; cases b; exact .int _⟩
theorem Sq.G6 {H : Hp} {a : Addr} {xs : List V} (h : H a = some (.lst xs)) : Sq true K H a xs := by
  unfold Sq
  exact bH.of h
theorem Sq.ofT {H : Hp} {a : Addr} {xs : List V} (h : H a = some (.tup xs)) : Sq false K H a xs := by
  unfold Sq
  exact cN.of h
section
variable {elts : List Expr} {x1 : Nat} {tp p pos : Pos} {l l1 l2 : Expr} {pl p1 p2 : aJ}
noncomputable def ziEnumK (k : Bool) (p : aJ) : cO := fun ρ M R => p ρ M fun d M1 => match k, d with | false, .tup ds => R (bP (jb ds.length) ds) M1 | true, .lst ds => R (bP (jb ds.length) ds) M1 | _, _ => False
theorem D0 (k : Bool) (hK : X.K = K) (hg : Gl X "enumerate") (hm : X.mg "enumerate" = none) (hl : QE Γ X l pl) (hs : starEach [l] X.env = [(false, eval l X.env)] := by rfl) :
    QI Γ X (.Tuple elts x1 tp) (.Call (.Name "enumerate" p) [l] [] pos) (ziEnumK k pl) := (DN k hK hg hm hl hs).imp fun σ H R ⟨β, ρ, M, R', zr, h, q⟩ => ⟨β, ρ, M, _, zr, h, fun d M1 v H1 x1 r1 h1 => by
  revert h1
  split
  · intro h1
    obtain ⟨a, vs, rfl, f, e, rs⟩ := bX r1
    refine ⟨a, rfl, ⟨vs, Sq.ofT e⟩, q _ _ _ _ x1 ?_ h1⟩
    rw [← rs.len]
    exact l0 pU rs fun M' H' x => by rw [← enum_zip]; exact qO (Sq.ofT (x.get f.1 e rfl))
  · intro h1
    obtain ⟨a, vs, rfl, f, e, rs⟩ := cT r1
    refine ⟨a, rfl, ⟨vs, Sq.G6 e⟩, q _ _ _ _ x1 ?_ h1⟩
    rw [← rs.len]
    exact l0 pU rs fun M' H' x => by rw [← enum_zip]; exact qO (Sq.G6 (x.get f.1 e rfl))
  · exact fun h => h.elim⟩
noncomputable def seqK (k : Bool) (d : Dv) (R : List Dv → Prop) : Prop := match k, d with | false, .tup ds => R ds | true, .lst ds => R ds | _, _ => False
theorem vA {k : Bool} {M : Mh} {H : Hp} {v : V} {d : Dv} {R : List Dv → Prop} (r : Rz β M H v d) (h : seqK k d R) : ∃ a vs ds, v = .ref a ∧ R ds ∧ aI β M H vs ds ∧ ∀ M' H', Ey M H M' H' → Sq k K H' a vs := by
  unfold seqK at h
  split at h
  · obtain ⟨a, vs, rfl, f, e, rs⟩ := bX r
    exact ⟨a, vs, _, rfl, h, rs, fun M' H' x => Sq.ofT (x.get f.1 e rfl)⟩
  · obtain ⟨a, vs, rfl, f, e, rs⟩ := cT r
    exact ⟨a, vs, _, rfl, h, rs, fun M' H' x => Sq.G6 (x.get f.1 e rfl)⟩
  · exact h.elim
noncomputable def ziZip (k1 k2 : Bool) (p1 p2 : aJ) : cO := fun ρ M R => p1 ρ M fun d M1 => p2 ρ M1 fun e M2 => seqK k1 d fun xs => seqK k2 e fun ys => R (bP xs ys) M2
theorem j8 (k1 k2 : Bool) (hK : X.K = K) (hg : Gl X "zip") (hm : X.mg "zip" = none) (h1 : QE Γ X l1 p1) (h2 : QE Γ X l2 p2) (hs : starEach [l1, l2] X.env = (false, eval l1 X.env) :: starEach [l2] X.env := by rfl) (iV : starEach [l2] X.env = [(false, eval l2 X.env)] := by rfl) :
    QI Γ X (.Tuple elts x1 tp) (.Call (.Name "zip" p) [l1, l2] [] pos) (ziZip k1 k2 p1 p2) := (GN k1 k2 hK hg hm h1 h2 hs iV).imp fun σ H R ⟨β, ρ, M, R', zr, h, q⟩ => ⟨β, ρ, M, _, zr, h, fun d M1 v H1 x1 r1 h1 => ⟨β, ρ, M1, _, zr.step x1, h1, fun e M2 u H2 x2 r2 h2 => by
  obtain ⟨a, vs, ds, rfl, h3, rs, s1⟩ := vA (K := K) (r1.ex x2) h2
  obtain ⟨b, us, es, rfl, h4, cf, s2⟩ := vA (K := K) r2 h3
  exact ⟨a, b, rfl, rfl, ⟨vs, s1 _ _ .refl⟩, ⟨us, s2 _ _ .refl⟩, q _ _ _ _ (x1.trans x2) (l0 rs cf fun M' H' x => AX (s1 _ _ x) (s2 _ _ x)) h4⟩⟩⟩
end
noncomputable def zRangeP (p : aJ) : aJ := fun ρ M Q => p ρ M fun d M1 => match d with | .int j => -(2 ^ 24) ≤ j ∧ j ≤ 2 ^ 24 ∧ ∀ a, M1 a = none → Q (.ptr a) (av M1 a (.lst (jb j.toNat))) | _ => False
section
variable {e : Expr} {pe : aJ} {p p1 p2 pos : Pos}
theorem rF (hc : X.calm = true) (hg : Gl X "list") (hm : X.mg "list" = none) (Gp : Gl X "range") (Gq : X.mg "range" = none) (he : QE Γ X e pe) (hs : starEach [e] X.env = [(false, eval e X.env)] := by rfl) :
    QE Γ X (.Call (.Name "list" p) [.Call (.Name "range" p1) [e] [] p2] [] pos) (zRangeP pe) := (sI hc hg hm Gp Gq he hs).imp fun σ H Q ⟨β, ρ, M, Q', zr, h, q⟩ => ⟨β, ρ, M, _, zr, h, fun d M1 v H1 x1 r1 h1 => by
  revert h1
  split
  · rename_i j
    rintro ⟨b1, b2, h1⟩
    refine ⟨_, aN r1, b1, b2, fun l hl => ?_⟩
    have x2 := Ex.own x1.mz (.inr hl) (pU (n := j.toNat) (β := β) (M := M1) (H := H1))
    exact q _ _ _ _ (x1.trans x2) (.ptr (by rw [updM_same]; rfl)) (h1 l (x1.mz.free hl))
  · exact fun h => h.elim⟩
noncomputable def truD (M : Mh) : Dv → Option Bool
  | .bl b => some b
  | .au => some false
  | .int i => some (i != 0)
  | .str z => if z.length ≤ sizeLine then some ((z.length : Int) != 0) else none
  | .tup ds => some (!ds.isEmpty)
  | .lst ds => some (!ds.isEmpty)
  | .ptr a => match M a with | some (.lst ds) => some (!ds.isEmpty) | _ => none
  | _ => none
noncomputable def zTruth (p : aJ) : bS := fun ρ M Q => p ρ M fun d M1 => match truD M1 d with | some b => Q b M1 | none => False
theorem aI.isEmpty {M : Mh} {H : Hp} {vs : List V} {ds : List Dv} (h : aI β M H vs ds) : vs.isEmpty = ds.isEmpty := by
  have := h.len
  cases vs <;> cases ds <;> simp_all
theorem D1 {M : Mh} {H : Hp} {v : V} {d : Dv} {b : Bool} (m : Mz β M H) (r : Rz β M H v d) (h : truD M d = some b) : Ar K v H b := by
  cases r with
  | int i => cases h; exact rfl
  | bl i => cases h; exact rfl
  | au => cases h; exact rfl
  | str z =>
    simp only [truD] at h
    split at h
    · rename_i hz
      cases h
      exact ⟨hz, rfl⟩
    · cases h
  | tup f e hl q => cases h; exact .inr (.inl ⟨_, cN.of e, by rw [aI.isEmpty ⟨hl, q⟩]⟩)
  | lst f e hl q => cases h; exact .inl ⟨_, bH.of e, by rw [aI.isEmpty ⟨hl, q⟩]⟩
  | ptr hs =>
    simp only [truD] at h
    split at h
    · rename_i ds nj
      cases h
      obtain ⟨vs, hv, rs⟩ := m.obj _ _ nj
      exact .inl ⟨_, bH.of hv, by rw [rs.isEmpty]⟩
    · cases h
  | set f e => cases h
  | exc f e => cases h
  | bw f e => cases h
  | cj f e => cases h
  | ck e => cases h
  | raw v => cases h
  | dk f e _ _ _ => cases h
  | dt f e _ _ _ => cases h
  | cJ _ _ _ _ _ _ => cases h
theorem Bf (ha : QE Γ X e pe) (he : ∀ whole, isTrue e X.env whole = (do let v ← whole; standAt e.pos; holding [v] (truthy v)) := by intro _; rfl) : QT Γ X e (zTruth pe) := (As ha he).imp fun σ H Q ⟨β, ρ, M, Q', zr, h, q⟩ => ⟨β, ρ, M, _, zr, h, fun d M1 v H1 x1 r1 h1 => by
  revert h1
  split
  · rename_i b hb
    intro h1
    exact ⟨b, D1 x1.mz r1 hb, q _ _ _ x1 h1⟩
  · exact fun h => h.elim⟩
end
theorem qv (i : Nat) {x : Str} {pos : Pos} (hN : X.N[i]? = some x := by rfl) (hv : qp X.env.scope x := by first | exact Or.inl rfl | exact Or.inr (Or.inl rfl) | exact Or.inr (Or.inr rfl)) (hd : (x == ("__debug__" : Str)) = false := by decide)
    (gd : (x == ("__classdict__" : Str)) = false := by decide) : QE Γ X (.Name x pos) (zVar i) := GV hN hv hd gd
end
theorem NC {c : Bool} {A B : Prop} (h : c = true) (a : A) : if c = true then A else B := by rw [if_pos h]; exact a
theorem ND {c : Bool} {A B : Prop} (h : c = false) (b : B) : if c = true then A else B := by rw [h, if_neg Bool.false_ne_true]; exact b
theorem eS {c : Bool} {A B : Prop} (h1 : c = true → A) (h2 : c = false → B) : if c = true then A else B := by
  cases c
  · exact ND rfl (h2 rfl)
  · exact NC rfl (h1 rfl)
theorem pV {g : bL} {te : aJ} {M : Mh} (p : Dv → Bool) (I : aA → Prop) : ∀ {ds : List Dv} {τ : aA} {Q : Bool → Mh → Prop}, I τ → (∀ d ∈ ds, ∀ τ, I τ → ∀ R : aA → ZK, (∀ ay, I ay → R ay (.bl (p d)) M) → g d τ M fun ay M2 => te ay M2 (R ay)) → Q (ds.all p) M → jz g zNoIf te ds τ M Q
  | [], τ, Q, _, _, q => q
  | d :: ds, τ, Q, i, h, q => by
    refine h d List.mem_cons_self τ i (fun ay => zBool fun c M4 => if c = false then Q false M4 else jz g zNoIf te ds ay M4 Q) fun ay i2 => ?_
    show if p d = false then Q false M else jz g zNoIf te ds ay M Q
    cases e : p d with
    | false =>
      rw [if_pos rfl]
      rw [List.all_cons, e] at q
      exact q
    | true =>
      rw [if_neg (by decide)]
      rw [List.all_cons, e, Bool.true_and] at q
      exact pV p I i2 (fun d' hd => h d' (List.mem_cons_of_mem _ hd)) q
theorem f7 {g : bL} {te : aJ} (f : Dv → Dv) (I : aA → Mh → Prop) : ∀ {ds : List Dv} {τ : aA} {M : Mh} {Q : List Dv → Mh → Prop}, I τ M → (∀ d ∈ ds, ∀ τ M, I τ M → ∀ R : aA → ZK, (∀ ay M2, I ay M2 → R ay (f d) M2) → g d τ M fun ay M2 => te ay M2 (R ay)) → (∀ τ M, I τ M → Q (ds.map f) M) → fO g zNoIf te ds τ M Q
  | [], τ, M, Q, i, _, q => q τ M i
  | d :: ds, τ, M, Q, i, h, q => by
    refine h d List.mem_cons_self τ M i (fun ay y M4 => fO g zNoIf te ds ay M4 fun ys M5 => Q (y :: ys) M5) fun ay M2 i2 => ?_
    exact f7 f I i2 (fun d' hd => h d' (List.mem_cons_of_mem _ hd)) fun lj M3 i3 => q lj M3 i3
theorem pW {g : bL} {tt : bS} {te : aJ} (t : Dv → Bool) (f : Dv → Dv) (I : aA → Mh → Prop) : ∀ {ds : List Dv} {τ : aA} {M : Mh} {Q : List Dv → Mh → Prop}, I τ M →
    (∀ d ∈ ds, ∀ τ M, I τ M → ∀ (R0 : aA → Mh → Prop) (R : aA → ZK), (t d = true → ∀ ay M2, I ay M2 → R ay (f d) M2) → (t d = false → ∀ ay M2, I ay M2 → R0 ay M2) → g d τ M fun ay M2 => tt ay M2 fun b M3 => if b = true then te ay M3 (R ay) else R0 ay M3) →
    (∀ τ M, I τ M → Q ((ds.filter t).map f) M) → fO g tt te ds τ M Q
  | [], τ, M, Q, i, _, q => q τ M i
  | d :: ds, τ, M, Q, i, h, q => by
    refine h d List.mem_cons_self τ M i (fun ay M3 => fO g tt te ds ay M3 Q) (fun ay y M4 => fO g tt te ds ay M4 fun ys M5 => Q (y :: ys) M5) (fun e ay M2 i2 => ?_) fun e ay M2 i2 => ?_
    · refine pW t f I i2 (fun d' hd => h d' (List.mem_cons_of_mem _ hd)) fun lj M3 i3 => ?_
      have := q lj M3 i3
      rw [List.filter_cons, if_pos e] at this
      exact this
    · refine pW t f I i2 (fun d' hd => h d' (List.mem_cons_of_mem _ hd)) fun lj M3 i3 => ?_
      have := q lj M3 i3
      rw [List.filter_cons, if_neg (by rw [e]; decide)] at this
      exact this
noncomputable abbrev eI (ns : List Int) : Dv := .tup (ns.map .int)
noncomputable abbrev eN (ae : List (List Int)) : Dv := .tup (ae.map eI)
noncomputable abbrev jC (ns : List Int) : Dv := .lst (ns.map .int)
theorem tG : ∀ ns : List Int, fJ (ns.map Dv.int) = some (ns.map Dt.int)
  | [] => rfl
  | n :: ns => by simp only [List.map_cons, fJ, bM, tG ns]
theorem wB (ns : List Int) : bM (eI ns) = some (.tup (ns.map Dt.int)) := by simp only [eI, bM, tG, Option.map_some]
theorem vB {α : Type} {f : α → Dv} {g : α → Dt} (h : ∀ x, bM (f x) = some (g x)) : ∀ xs : List α, fJ (xs.map f) = some (xs.map g)
  | [] => rfl
  | x :: xs => by simp only [List.map_cons, fJ, h x, vB h xs]
theorem oQ : ∀ xs ys : List Int, fv (xs.map Dt.int) (ys.map Dt.int) = decide (xs = ys)
  | [], [] => by simp [fv]
  | [], _ :: _ => by simp [fv]
  | _ :: _, [] => by simp [fv]
  | x :: xs, y :: ys => by
    rw [List.map_cons, List.map_cons, fv, oQ xs ys, cy]
    by_cases h1 : x = y <;> by_cases h2 : xs = ys <;> simp [h1, h2]
theorem tH {n : Nat} : ∀ {ds : List Dt}, (∀ d ∈ ds, il d ≤ n) → gq ds ≤ n
  | [], _ => by rw [gq]; exact Nat.zero_le _
  | d :: ds, h => by
    rw [gq]
    exact Nat.max_le.mpr ⟨h d List.mem_cons_self, tH fun d' hd => h d' (List.mem_cons_of_mem _ hd)⟩
theorem vC (ns : List Int) : gq (ns.map Dt.int) ≤ 0 := tH fun d hd => by
  obtain ⟨i, _, rfl⟩ := List.mem_map.mp hd
  exact Nat.le_refl _
theorem gT {M : Mh} (ns : List Int) : ∀ d ∈ ns.map Dv.int, Pin M d := fun d hd => by
  obtain ⟨i, _, rfl⟩ := List.mem_map.mp hd
  exact .int i
theorem j9 {M : Mh} (ns : List Int) : Pin M (eI ns) := .tup (gT ns)
theorem y0 {M : Mh} (ae : List (List Int)) : Pin M (eN ae) := .tup fun d hd => by
  obtain ⟨r, _, rfl⟩ := List.mem_map.mp hd
  exact j9 r
theorem D2 {α β : Type} {f : α → β} {xs : List α} {i : Int} {x : α} (h : c6 xs i = some x) : c6 (xs.map f) i = some (f x) := by
  unfold c6 at h ⊢
  rw [List.length_map]
  cases e : ig xs.length i with
  | none => rw [e] at h; cases h
  | some j => rw [e] at h; simp only [Option.bind_some] at h ⊢; rw [List.getElem?_map, h]; rfl
theorem y1 {α : Type} {xs : List α} {k : Nat} (h : k < xs.length) : c6 xs ((k : Nat) : Int) = some xs[k] := eE (List.getElem?_eq_getElem h)
noncomputable def spLaw (K : PySem.W.Frag) (tb : da) : Sp := fun vs H Q _ => ∃ (a : Addr) (ns : List Int), vs = [.ref a] ∧ bH K H a (ns.map V.int) ∧ ns.length ≤ 63 ∧ Cp tb.g H ∧ (∀ p ∈ tb.l, Lm H p) ∧ ∀ H', (∀ p ∈ tb.l, ∃ ps, H' p.1 = some (.lam ps)) → Q (.bl true) H'
noncomputable def G7 : cU := fun ds M Q _ => ∃ ns : List Int, ds = [.bw ns] ∧ ns.length ≤ 63 ∧ (∀ a, M a = none) ∧ ∀ M', Q (.bl true) M'
theorem G8 {P : Program} {w : World} {K : PySem.W.Frag} {mg : Str → Option Value} {base : Heap} {k : Nat} {f : Addr} {fd : FuncData} {x : Str} {tb : da} (G : FnOk P w K mg base bc k f fd [x] (aT P w K tb G7)) : FnOk P w K mg base bc k f fd [x] (spLaw K tb) :=
  G.imp fun vs H Q E ⟨a, ns, e, hS, hl, hT, hL, q⟩ => by
    subst e
    have m : Mz ⟨P, w, K, tb, []⟩ (fun _ => none) H := ⟨(fun a o e => nomatch e), hT, (fun a ha => absurd ha (by simp)), (fun a o e => nomatch e), hL⟩
    refine ⟨⟨P, w, K, tb, []⟩, [.bw ns], fun _ => none, fun d _ => d = .bl true, fun _ _ => False, rfl, rfl, rfl, rfl, m, .cons ?_ .nil, ⟨ns, rfl, hl, fun _ => rfl, fun _ => rfl⟩, fun d M' v H' x r h => ?_, fun _ _ _ _ h => h.elim⟩
    · have fz : Fz ⟨P, w, K, tb, []⟩ (fun _ => none) a := ⟨rfl, by simp⟩
      rcases hS with (h | ⟨o, h⟩) | h
      · exact .cj fz h
      · exact .bw fz h
      · exact .ck h
    · subst h
      rw [de r]
      exact q H' fun p hp => let ⟨ps, e, _⟩ := x.mz.lams p hp; ⟨ps, e⟩
noncomputable def Keeps (M0 M : Mh) : Prop := ∀ a o, M0 a = some o → M a = some o
theorem Keeps.refl {M0 : Mh} : Keeps M0 M0 := fun _ _ h => h
theorem Keeps.upd {M0 M : Mh} {a : Addr} {o : Mo} (ha : M0 a = none) (h : Keeps M0 M) : Keeps M0 (av M a o) := fun b u e => by
  rw [ao (fun z => by rw [z, ha] at e; cases e)]
  exact h b u e
theorem md {M0 M : Mh} {Q : ZK} {d : Dv} (h : Keeps M0 M) (p : Pin M0 d) (q : Q d M0) : jS M0 Q d M := .inr ⟨h, d, .pin p, q⟩
theorem qW {M0 M : Mh} {Q : ZK} {a : Addr} {ds : List Dv} (h : Keeps M0 M) (h0 : M0 a = none) (ha : M a = some (.lst ds)) (p : ∀ d ∈ ds, Pin M0 d) (q : Q (.lst ds) M0) : jS M0 Q (.ptr a) M := .inr ⟨h, .lst ds, .ptr h0 ha rfl fun i d d' e e' => by
  rw [e] at e'
  cases e'
  exact .pin (p d (List.mem_of_getElem? e)), q⟩
theorem cV {lo : Int} {n i : Nat} {d : Dv} (h : (cq lo n)[i]? = some d) : d = .int (lo + (i : Nat)) ∧ i < n := by
  unfold cq at h
  rw [List.getElem?_map] at h
  cases e : (List.range n)[i]? with
  | none => rw [e] at h; cases h
  | some k =>
    rw [e] at h
    obtain ⟨h1, h2⟩ := List.getElem?_eq_some_iff.mp e
    rw [List.getElem_range] at h2
    subst h2
    exact ⟨(Option.some.inj h).symm, by simpa using h1⟩
theorem oR {lo : Int} {n : Nat} {d : Dv} (h : d ∈ cq lo n) : ∃ i : Nat, i < n ∧ d = .int (lo + (i : Nat)) := by
  obtain ⟨i, hi⟩ := List.mem_iff_getElem?.mp h
  obtain ⟨e, l⟩ := cV hi
  exact ⟨i, l, e⟩
theorem rangeD_len (lo : Int) (n : Nat) : (cq lo n).length = n := by simp [cq]
theorem gU {tt : bS} (t : Dv → Bool) {τ : aA} : ∀ {ds : List Dv} {x : Option Dv} {M : Mh} {Q : List Dv → Mh → Prop}, (∀ d ∈ ds, ∀ R : Bool → Mh → Prop, R (t d) M → tt (some d :: τ) M R) → Q (ds.filter t) M → fO (zgName 0) tt (zVar 0) ds (x :: τ) M Q
  | [], x, M, Q, _, q => q
  | d :: ds, x, M, Q, h, q => by
    refine h d List.mem_cons_self _ ?_
    cases e : t d with
    | true =>
      rw [List.filter_cons, if_pos e] at q
      exact gU t (Q := fun ys M5 => Q (d :: ys) M5) (fun d' hd => h d' (List.mem_cons_of_mem _ hd)) q
    | false =>
      rw [List.filter_cons, if_neg (by rw [e]; decide)] at q
      exact gU t (fun d' hd => h d' (List.mem_cons_of_mem _ hd)) q
theorem iu {xs ys : List Dv} {k : Nat} {d : Dv} (h : (bP xs ys)[k]? = some d) : ∃ x y, d = .tup [x, y] ∧ xs[k]? = some x ∧ ys[k]? = some y := by
  unfold bP at h
  rw [List.getElem?_map, Option.map_eq_some_iff] at h
  obtain ⟨p, h, rfl⟩ := h
  rw [List.getElem?_zip_eq_some] at h
  exact ⟨p.1, p.2, rfl, h.1, h.2⟩
theorem D3 {n k : Nat} {d : Dv} (h : (jb n)[k]? = some d) : d = .int (k : Nat) ∧ k < n := by
  unfold jb at h
  rw [List.getElem?_map] at h
  cases e : (List.range n)[k]? with
  | none => rw [e] at h; cases h
  | some j =>
    rw [e] at h
    obtain ⟨h1, h2⟩ := List.getElem?_eq_some_iff.mp e
    rw [List.getElem_range] at h2
    subst h2
    exact ⟨(Option.some.inj h).symm, by simpa using h1⟩
theorem D4 {ds : List Dv} {k : Nat} {d : Dv} (h : (bP (jb ds.length) ds)[k]? = some d) : ∃ x, d = .tup [.int (k : Nat), x] ∧ ds[k]? = some x := by
  obtain ⟨x, y, rfl, h1, h2⟩ := iu h
  obtain ⟨rfl, _⟩ := D3 h1
  exact ⟨y, rfl, h2⟩
theorem atI_zero {α : Type} {x : α} {xs : List α} : c6 (x :: xs) 0 = some x := eE (j := 0) rfl
theorem jc {α : Type} {f : α → Dv} {xs : List α} {k : Nat} {d : Dv} (h : (xs.map f)[k]? = some d) : ∃ x, xs[k]? = some x ∧ d = f x := by
  rw [List.getElem?_map, Option.map_eq_some_iff] at h
  obtain ⟨x, h, e⟩ := h
  exact ⟨x, h, e.symm⟩
theorem pairsD_len (xs ys : List Dv) : (bP xs ys).length = min xs.length ys.length := by simp [bP]
end L2
namespace L2
open PySem PySem.Spec PyProof.Rows
theorem y2 {M : Model} {A : Around} {E : Value → Shared → Prop} {s : Shared} {scope : Scope} {globals : Addr} {cl : List (Str × Addr)} {qual : Str} {env : Env} {Q : Env → Shared → Prop}
    (h : Q (newEnv scope s.heap.objs.size globals (cellsFrom (s.heap.objs.size + 1) scope.names cl) qual none .none (some env) builtinsNs) { s with heap := pushCells (s.heap.push { cls := .type "dict", data := .dict #[] }) scope.names }) :
    wpAny M A (newFunctionEnv scope globals cl [] qual none .none (some env)) Q E s := by
  simp only [newFunctionEnv, Option.isSome_some, if_true]
  refine wpAny_bind (wpAny_alloc ?_)
  refine wpAny_bind (wpAny_layCells _ (fun name kind cells => by cases NF : kind == NameKind.cell <;> simp [NF]) _ _ _ _ ?_)
  rw [show ({ s with heap := s.heap.push { cls := .type "dict", data := .dict #[] } } : Shared).heap.objs.size = s.heap.objs.size + 1 from Heap.size_push ..]
  exact wpAny_pure h
theorem jd : ∀ (names : List (Str × NameKind)) (h : Heap) (cl : List (Str × Addr)) (x : Str) (c : Addr), (cellsFrom h.objs.size names cl).lookup x = some c →
    ((x, NameKind.cell) ∈ names ∧ h.objs.size ≤ c ∧ (pushCells h names).IsCell c none) ∨ ((∀ k, (x, k) ∈ names → k ≠ .cell) ∧ cl.lookup x = some c)
  | [], h, cl, x, c, e => .inr ⟨fun k z => by simp at z, e⟩
  | (n, k) :: r, h, cl, x, c, e => by
    unfold cellsFrom at e
    unfold pushCells
    split at e
    · rename_i hk
      have ny : k = .cell := by simpa using hk
      subst ny
      rw [if_pos hk]
      have sz : (h.push { cls := .type "cell", data := .cell none }).objs.size = h.objs.size + 1 := Heap.size_push ..
      rw [← sz] at e
      rcases jd r _ _ x c e with ⟨a, b, d⟩ | ⟨a, b⟩
      · exact .inl ⟨List.mem_cons_of_mem _ a, by omega, d⟩
      · rw [List.lookup_cons] at b
        cases hx : x == n with
        | true =>
          rw [hx] at b
          cases b
          have e2 : x = n := by simpa using hx
          subst e2
          exact .inl ⟨List.mem_cons_self, Nat.le_refl _, ⟨_, pushCells_keeps r _ _ _ (Heap.get?_push_size _ rfl), rfl⟩⟩
        | false =>
          rw [hx] at b
          refine .inr ⟨fun k2 z => ?_, b⟩
          rcases List.mem_cons.mp z with q | q
          · cases q; simp at hx
          · exact a k2 q
    · rename_i hk
      rw [if_neg hk]
      rcases jd r h cl x c e with ⟨a, b, d⟩ | ⟨a, b⟩
      · exact .inl ⟨List.mem_cons_of_mem _ a, b, d⟩
      · refine .inr ⟨fun k2 z => ?_, b⟩
        rcases List.mem_cons.mp z with q | q
        · cases q; intro z; subst z; exact hk rfl
        · exact a k2 q
theorem cells_apart : ∀ (names : List (Str × NameKind)) (h : Heap) (cl : List (Str × Addr)) (x y : Str) (c : Addr), (∀ n c, cl.lookup n = some c → c < h.objs.size) → (∀ x y c, cl.lookup x = some c → cl.lookup y = some c → x = y) → (cellsFrom h.objs.size names cl).lookup x = some c → (cellsFrom h.objs.size names cl).lookup y = some c → x = y
  | [], h, cl, x, y, c, _, inj, e, e' => inj x y c e e'
  | (n, k) :: r, h, cl, x, y, c, lt, inj, e, e' => by
    unfold cellsFrom at e e'
    split at e
    · rename_i hk
      rw [if_pos hk] at e'
      have sz : (h.push { cls := .type "cell", data := .cell none }).objs.size = h.objs.size + 1 := Heap.size_push ..
      rw [← sz] at e e'
      refine cells_apart r _ _ x y c (fun m d z => ?_) (fun x y d a b => ?_) e e'
      · rw [sz]
        rw [List.lookup_cons] at z
        cases hm : m == n with
        | true => rw [hm] at z; cases z; exact Nat.lt_succ_self _
        | false => rw [hm] at z; exact Nat.lt_succ_of_lt (lt m d z)
      · rw [List.lookup_cons] at a b
        have old : ∀ z, cl.lookup z = some h.objs.size → False := fun z q => absurd (lt _ _ q) (Nat.lt_irrefl _)
        cases hx : x == n with
        | true =>
          rw [hx] at a
          cases a
          cases hy : y == n with
          | true => rw [show x = n by simpa using hx, show y = n by simpa using hy]
          | false => rw [hy] at b; exact (old y b).elim
        | false =>
          rw [hx] at a
          cases hy : y == n with
          | true => rw [hy] at b; cases b; exact (old x a).elim
          | false => rw [hy] at b; exact inj x y d a b
    · rename_i hk
      rw [if_neg hk] at e'
      exact cells_apart r h cl x y c lt inj e e'
theorem jD : ∀ (names : List (Str × NameKind)) (n : Nat) (cl : List (Str × Addr)) (x : Str), ((x, NameKind.cell) ∈ names ∨ ∃ c, cl.lookup x = some c) → ∃ c, (cellsFrom n names cl).lookup x = some c
  | [], n, cl, x, h => by
    rcases h with h | h
    · simp at h
    · exact h
  | (y, k) :: r, n, cl, x, h => by
    unfold cellsFrom
    split
    · rename_i hk
      refine jD r _ _ x ?_
      by_cases e : x = y
      · subst e
        exact .inr ⟨n, by rw [List.lookup_cons]; simp⟩
      · rcases h with h | ⟨c, h⟩
        · rcases List.mem_cons.mp h with q | q
          · cases q; exact absurd rfl e
          · exact .inl q
        · exact .inr ⟨c, by rw [List.lookup_cons, show (x == y) = false by simpa using e]; exact h⟩
    · rename_i hk
      refine jD r _ _ x ?_
      rcases h with h | h
      · rcases List.mem_cons.mp h with q | q
        · cases q; exact absurd rfl hk
        · exact .inl q
      · exact .inr h
theorem wC {X : Cx} {pins : List (Addr × Obj)} {σ : St} {H : Hp} {s : Shared} (I : Inv X pins σ H s) {x : Str} {c : Addr} (h : X.env.cells.lookup x = some c) : c < s.heap.objs.size := by
  obtain ⟨v, o, ho, _⟩ := I.cell x c h
  exact Heap.lt_size ho
noncomputable abbrev nz (X : Cx) (N' : List Str) (scope : Scope) (cl : List (Str × Addr)) (C : Addr) (s : Shared) (H : Hp) (fp : List Addr) (own : Str → Bool) : Cx := { jv X N' scope cl C s H fp with fn := own }
noncomputable def dG (N : List Str) (sc scope : Scope) (N' : List Str) (tn : Nat) (idx : List Nat) : Prop :=
  scope.kind = .function ∧ (∀ y ∈ scope.names, (y.2 = .cell → scope.names.lookup y.1 = some .cell) ∧ (y.2 = .local → scope.names.lookup y.1 = some .local) ∧ (y.2 = .free → sc.names.lookup y.1 = some .cell ∨ sc.names.lookup y.1 = some .free)) ∧
    N'.length = tn + idx.length ∧ ∀ p ∈ idx.zip (N'.drop tn), N[p.1]? = some p.2 ∧ scope.names.lookup p.2 = some .free
instance (N : List Str) (sc scope : Scope) (N' : List Str) (tn : Nat) (idx : List Nat) : Decidable (dG N sc scope N' tn idx) := by unfold dG; infer_instance
theorem dG.at {N : List Str} {sc scope : Scope} {N' : List Str} {tn : Nat} {idx : List Nat} (B : dG N sc scope N' tn idx) {σ : St} {i : Nat} {x : Str} {v : V} (h1 : N'[i]? = some x) (h2 : (bj tn idx σ)[i]? = some (some v)) :
    scope.names.lookup x = some .free ∧ ∃ j : Nat, N[j]? = some x ∧ σ[j]? = some (some v) := by
  obtain ⟨_, _, b3, b4⟩ := B
  unfold bj at h2
  by_cases hi : i < tn
  · rw [List.getElem?_append_left (by simpa using hi), List.getElem?_replicate, if_pos hi] at h2
    cases h2
  · rw [List.getElem?_append_right (by simpa using hi), List.length_replicate, List.getElem?_map] at h2
    cases e : idx[i - tn]? with
    | none => rw [e] at h2; cases h2
    | some k =>
      rw [e] at h2
      have h3 : (σ[k]?).join = some v := Option.some.inj h2
      have e2 : (N'.drop tn)[i - tn]? = some x := by
        rw [List.getElem?_drop]
        have : tn + (i - tn) = i := by omega
        rw [this]; exact h1
      have m : (k, x) ∈ idx.zip (N'.drop tn) := by
        refine List.mem_of_getElem? (i := i - tn) ?_
        rw [List.getElem?_zip_eq_some]
        exact ⟨e, e2⟩
      obtain ⟨a, b⟩ := b4 _ m
      refine ⟨b, k, a, ?_⟩
      cases q : σ[k]? with
      | none => rw [q] at h3; cases h3
      | some w => rw [q] at h3; exact congrArg some h3
theorem dG.len {N : List Str} {sc scope : Scope} {N' : List Str} {tn : Nat} {idx : List Nat} (B : dG N sc scope N' tn idx) (σ : St) : (bj tn idx σ).length = N'.length := by
  rw [B.2.2.1]
  unfold bj
  simp
noncomputable def dH (scope : Scope) (x : Str) : Bool := scope.names.lookup x == some .cell
noncomputable abbrev kJ (X : Cx) (N' : List Str) (scope : Scope) (P : Cx → Prop) : Prop := ∀ (cl : List (Str × Addr)) (C : Addr) (s : Shared) (H : Hp) (fp : List Addr), P (nz X N' scope cl C s H fp (dH scope))
theorem wD {X : Cx} {pins : List (Addr × Obj)} {σ aK : St} {H H' : Hp} {s : Shared} {N' : List Str} {scope : Scope} {cs : List (Str × Addr)} {C : Addr} {ex : List Addr} {h1 : Heap} {m0 : Str → Option Value} {g' : Array GenState} {tk : Nat}
    (I : Inv X pins σ H s) (mH : scope.kind = .function)
    (d9 : ∀ n c, cs.lookup n = some c → (dH scope n = true ∧ C < c ∧ h1.IsCell c none ∧ H' c = none) ∨ (dH scope n = false ∧ X.env.cells.lookup n = some c))
    (Mk : ∀ x y c, cs.lookup x = some c → cs.lookup y = some c → x = y)
    (sx : ∀ x, ((relabel scope X.env).names.lookup x = some .cell ∨ (relabel scope X.env).names.lookup x = some .free) → ∃ c, cs.lookup x = some c)
    (hC : s.heap.objs.size ≤ C) (hf : ∀ b ∈ ex, cM X pins H b) (we : ∀ b ∈ ex, b < s.heap.objs.size)
    (x8 : Un (fo X.stack) ex H H' s.heap h1) (hok : cw X.prog X.w H' h1) (oy : H' C = none) (oz : ∀ b o, s.heap.get? b = some o → h1.get? b = some o) (oA : h1.Ns C m0)
    (sy : ∀ (i : Nat) (x : Str) (v : V), N'[i]? = some x → aK[i]? = some (some v) → dH scope x = false ∧ ((relabel scope X.env).names.lookup x = some .cell ∨ (relabel scope X.env).names.lookup x = some .free) ∧ qp X.env.scope x ∧ (X.env.kindOf x = some .cell ∨ X.env.kindOf x = some .free) ∧ ∃ j : Nat, X.N[j]? = some x ∧ σ[j]? = some (some v))
    (hlen : aK.length = N'.length) (hg : Gn s.gens.size g') : Inv (nz X N' scope cs C s H ex (dH scope)) [] aK H' { s with heap := h1, gens := g', toks := tk } := by
  have ya : ∀ b ∈ ex, ∀ x c, X.env.cells.lookup x = some c → c ≠ b := fun b hb => (hf b hb).2.2.2.2.1
  have NI : ∀ b ∈ ex, ∀ x c, cs.lookup x = some c → c ≠ b := fun b hb x c e z => by
    rcases d9 x c e with ⟨_, q, _⟩ | ⟨_, q⟩
    · subst z; exact absurd (Nat.lt_trans (Nat.lt_of_le_of_lt hC q) (we _ hb)) (Nat.lt_irrefl _)
    · exact ya b hb x c q z
  refine ⟨⟨I.ok.mod, mH, I.ok.glob, I.ok.blt, hC, Mk, sx, fun x c hx e => ?_, fun z => I.ok.hd z, I.ok.frames, .inl rfl, fun b hb => ⟨Nat.ne_of_lt (Nat.lt_of_lt_of_le (we b hb) hC), fun x c e => NI b hb x c e⟩,
      I.bs, Nat.le_trans I.ok.bsz I.sz, fun b o e hb => ?_, fun b hb z => ?_, I.stack, I.mG⟩, rfl, hg, x8, ⟨m0, oA, fun i x v e1 e2 e3 => ?_⟩, fun x c e => ?_, oy, fun x c e => ?_, fun p hp => absurd (show p ∈ ([] : List (Addr × Obj)) from hp) (by simp), hok, hlen⟩
  · rcases d9 x c e with ⟨_, q, _⟩ | ⟨q, _⟩
    · exact Nat.le_of_lt (Nat.lt_of_le_of_lt hC q)
    · have gI : dH scope x = true := hx
      rw [q] at gI; cases gI
  · rcases (hf b hb).2.2.2.1 with z | z
    · exact I.ok.noex b o e z
    · exact absurd (Nat.lt_of_lt_of_le (Heap.lt_size e) (Nat.le_trans I.ok.bsz z)) (Nat.lt_irrefl _)
  · rcases List.mem_cons.mp (I.fw b z) with q | q
    · exact (hf b hb).2.1 q
    · exact (hf b hb).2.2.1 q
  · obtain ⟨k0, k1, vx, k2, j, n1, n2⟩ := sy i x v e1 e2
    obtain ⟨m, hn, hl⟩ := I.loc
    obtain ⟨u, r, l⟩ := hl j x v n1 n2 vx
    refine ⟨u, r, .inr ⟨k1, ?_⟩⟩
    obtain ⟨c', yb⟩ := sx x k1
    rcases l with ⟨kl, _⟩ | ⟨_, c, ec, z⟩
    · rcases k2 with q | q <;> (rw [kl] at q; cases q)
    · rcases d9 x c' yb with ⟨q, _⟩ | ⟨_, q⟩
      · rw [k0] at q; cases q
      · have : c' = c := Option.some.inj (q.symm.trans ec)
        subst this
        exact ⟨c', yb, z.keeps oz⟩
  · rcases d9 x c e with ⟨_, _, q, _⟩ | ⟨_, q⟩
    · exact ⟨_, q⟩
    · obtain ⟨v, z⟩ := I.cell x c q
      exact ⟨v, z.keeps oz⟩
  · rcases d9 x c e with ⟨_, _, _, q⟩ | ⟨_, q⟩
    · exact q
    · obtain ⟨v, o, ho, hd⟩ := I.cell x c q
      exact x8.free c o ho (I.freeC x c q) fun z => ya c z x c q rfl
section
variable {X : Cx}
theorem wF {pins : List (Addr × Obj)} {σ : St} {H2 : Hp} {s2 : Shared} {tg elt iter : Expr} {ifs : List Expr} {scope : Scope} {pos : Pos} {N' : List Str} {tn : Nat} {idx : List Nat} {g : TG} {tt : TT} {te : TE} {it : Addr} {fp : List Addr} {bR : Nat → Heap → Prop} {J : It}
    {cl : List (Str × Addr)} {E : Value → Shared → Prop} {RR : Value → Addr → Result → Shared → Prop} {Q : VK}
    (hc : X.calm = true) (B : dG X.N X.env.scope scope N' tn idx)
    (hg : kJ X N' scope fun Y => PG Y tg g) (ht : kJ X N' scope fun Y => fX Y ifs tt) (he : kJ X N' scope fun Y => PE Y elt te)
    (I : Inv X pins σ H2 s2) (T : Turn X.prog X.w X.K tg J fp it bR) (st : bR 0 s2.heap) (f2 : ∀ b ∈ fp, cM X pins H2 b)
    (cG : ∀ n c, cl.lookup n = some c → X.env.cells.lookup n = some c) (ez : ∀ n, (n, NameKind.free) ∈ scope.names → ∃ c, cl.lookup n = some c)
    (hq : ∀ D, H2 D = none → ∃ W : Nat → Nat → St → Hp → Prop, (∃ m, W 0 m (bj tn idx σ) (upd H2 D (.lst []))) ∧ wg J g tt te D Q W)
    (yc : ∀ D C m s' H', Inv X pins σ H' s' → cM X pins H' C → s'.heap.Ns C m → Q (.ref D) H' → RR (.ref D) C (.ok .next) s') :
    wpAny (model X.prog X.w) X.A (newList []) (fun acc fu => wpAny (model X.prog X.w) X.A (newFunctionEnv scope X.env.globals cl [] X.env.qual none .none (some X.env)) (fun lF sA =>
      codeAny (model X.prog X.w) X.A (.compStart (.ListComp elt [⟨tg, iter, ifs, 0⟩] scope pos) 0 (.ref it) acc { lF with scope := relabel scope X.env }) (RR acc lF.locals) sA) E fu) E s2 := by
  obtain ⟨b1, b2, b3, b4⟩ := id B
  refine wpAny_newObj_type (y2 ?_)
  dsimp only
  generalize hG : s2.heap.push { cls := .type "list", dict := none, data := .seq ([] : List Value).toArray } = G
  have hC : G.objs.size = s2.heap.objs.size + 1 := by rw [← hG, Heap.size_push]
  generalize G9 : pushCells (G.push { cls := .type "dict", data := .dict #[] }) scope.names = dn
  have gi : dn.Ns G.objs.size fun _ => none := by rw [← G9]; exact (Heap.Ns.new G (.type "dict")).keeps (pushCells_keeps _ _)
  have KN : ∀ b o, G.get? b = some o → dn.get? b = some o := fun b o e => by rw [← G9]; exact pushCells_keeps _ _ b o (Heap.get?_push_of_some _ e)
  have sC : s2.heap.objs.size ≠ G.objs.size := by rw [hC]; exact Nat.ne_of_lt (Nat.lt_succ_self _)
  have gO : s2.heap.objs.size ≤ G.objs.size := by rw [hC]; exact Nat.le_succ _
  have below : ∀ b, b < s2.heap.objs.size → b ≠ G.objs.size := fun b hb => by rw [hC]; exact Nat.ne_of_lt (Nat.lt_succ_of_lt hb)
  have old : ∀ b o, s2.heap.get? b = some o → dn.get? b = some o := fun b o e => KN b o (hG ▸ Heap.get?_push_of_some _ e)
  have ye : dn.get? s2.heap.objs.size = some { cls := .type "list", data := .seq ([] : List Value).toArray } := KN _ _ (hG ▸ Heap.get?_push_size _ rfl)
  generalize vD : cellsFrom (G.objs.size + 1) scope.names cl = cs
  have CM : (G.push { cls := .type "dict", data := .dict #[] }).objs.size = G.objs.size + 1 := Heap.size_push ..
  have Ha : ∀ x, (x, NameKind.cell) ∈ scope.names → dH scope x = true := fun x hx => by
    unfold dH
    rw [(b2 _ hx).1 rfl]
    rfl
  have D5 : ∀ x, (∀ k, (x, k) ∈ scope.names → k ≠ NameKind.cell) → dH scope x = false := fun x hx => by
    unfold dH
    cases q : scope.names.lookup x with
    | none => rfl
    | some k => have := hx k (PySem.mem_of_lookup q); simpa using this
  have look : ∀ x c, cs.lookup x = some c → (dH scope x = true ∧ G.objs.size < c ∧ dn.IsCell c none) ∨ (dH scope x = false ∧ cl.lookup x = some c) := fun x c e => by
    rw [← vD, ← CM] at e
    rcases jd scope.names _ cl x c e with ⟨a, b, d⟩ | ⟨a, b⟩
    · rw [G9] at d
      rw [CM] at b
      exact .inl ⟨Ha x a, b, d⟩
    · exact .inr ⟨D5 x a, b⟩
  have inj : ∀ x y c, cs.lookup x = some c → cs.lookup y = some c → x = y := fun x y c e e' => by
    rw [← vD, ← CM] at e e'
    refine cells_apart scope.names _ cl x y c (fun n d z => ?_) (fun x y d a b => I.ok.inj x y d (cG x d a) (cG y d b)) e e'
    rw [CM, hC]
    exact Nat.lt_succ_of_lt (Nat.lt_succ_of_lt (wC I (cG n d z)))
  have qI : H2 s2.heap.objs.size = none := I.hok.fresh (Nat.le_refl _)
  have oy : upd H2 s2.heap.objs.size (.lst []) G.objs.size = none := by rw [ai (Ne.symm sC)]; exact I.hok.fresh gO
  have sD : cw X.prog X.w (upd H2 s2.heap.objs.size (.lst [])) dn := I.hok.laid old (Nat.le_refl _) ⟨Nat.zero_le _, [], 0, .nil, ye⟩
  have iC : ∀ b ∈ fp, b < s2.heap.objs.size := fun b hb => let ⟨o, e, _⟩ := T.obj _ _ st b hb; Heap.lt_size e
  obtain ⟨W, ⟨m0, w0⟩, turn⟩ := hq s2.heap.objs.size qI
  have I1 : Inv (nz X N' scope cs G.objs.size s2 H2 fp (dH scope)) [] (bj tn idx σ) (upd H2 s2.heap.objs.size (.lst [])) { s2 with heap := dn, toks := s2.toks } := by
    refine wD (g' := s2.gens) (m0 := fun _ => none) I b1 (fun n c e => ?_) inj (fun x hx => ?_) gO f2 iC (Un.laid old (Nat.le_refl _) qI) sD oy old gi (fun i x v e1 e2 => ?_) (B.len σ) I.bare.self
    · rcases look n c e with ⟨o, a, b⟩ | ⟨o, a⟩
      · refine .inl ⟨o, a, b, ?_⟩
        have : c ≠ s2.heap.objs.size := fun z => by rw [z, hC] at a; exact absurd (Nat.lt_trans a (Nat.lt_succ_self _)) (fun h => by omega)
        rw [ai this]
        exact I.hok.fresh (Nat.le_of_lt (Nat.lt_of_le_of_lt gO a))
      · exact .inr ⟨o, cG n c a⟩
    · rw [c7] at hx
      rw [← vD]
      cases q : scope.names.lookup x with
      | none => rw [q] at hx; rcases hx with z | z <;> cases z
      | some k0 =>
        have hm := PySem.mem_of_lookup q
        rw [q] at hx
        by_cases hk : k0 = .free
        · subst hk; exact jD _ _ _ _ (.inr (ez x hm))
        · have nk : (k0 == NameKind.free) = false := by simpa using hk
          simp only [Option.map_some, nk, Bool.false_and, Bool.false_eq_true, if_false] at hx
          rcases hx with z | z
          · have e0 : k0 = .cell := Option.some.inj z
            subst e0
            exact jD _ _ _ _ (.inl hm)
          · exact absurd (Option.some.inj z) hk
    · obtain ⟨fr, j, e4, e5⟩ := B.at e1 e2
      have kx := (b2 _ (PySem.mem_of_lookup fr)).2.2 rfl
      refine ⟨by unfold dH; rw [fr]; rfl, ?_, .inr kx, kx, j, e4, e5⟩
      rw [c7, fr]
      simp only [Option.map_some]
      split
      · exact .inl rfl
      · exact .inr rfl
  have stat : ∀ {H' : Hp}, (∀ b ∈ fp, H' b = none) → ∀ b ∈ fp, cM (nz X N' scope cs G.objs.size s2 H2 fp (dH scope)) [] H' b := fun hn b hb => by
    refine ⟨hn b hb, below b (iC b hb), fun z => ?_, .inl hb, (fun x c e => by
      rcases look x c e with ⟨_, a, _⟩ | ⟨_, a⟩
      · exact fun z => absurd (Nat.lt_trans (Nat.lt_of_le_of_lt gO (z ▸ a)) (iC b hb)) (Nat.lt_irrefl _)
      · exact (f2 b hb).2.2.2.2.1 x c (cG x c a)), fun p hp => absurd (show p ∈ ([] : List (Addr × Obj)) from hp) (by simp)⟩
    rcases List.mem_cons.mp (I.fw b z) with q | q
    · exact (f2 b hb).2.1 q
    · exact (f2 b hb).2.2.1 q
  have loop : ∀ fu : Shared, fu = { s2 with heap := dn, toks := s2.toks } →
      codeAny (model X.prog X.w) X.A (.compLoop (.ListComp elt [⟨tg, iter, ifs, 0⟩] scope pos) 0 (.ref it) (.ref s2.heap.objs.size) (compEnvC scope cs G.objs.size X.env))
        (RR (.ref s2.heap.objs.size) G.objs.size) fu := by
    rintro fu rfl
    refine codeAny_loop rfl (fun n s' => ∃ i τ H', Inv (nz X N' scope cs G.objs.size s2 H2 fp (dH scope)) [] τ H' s' ∧ bR i s'.heap ∧ (∀ b ∈ fp, H' b = none) ∧ W i n τ H') (fun n s hI => ?_) m0
      ⟨0, _, _, I1, T.keep _ _ _ st fun b _ o e => old b o e, fun b hb => by rw [ai (Nat.ne_of_lt (iC b hb))]; exact (f2 b hb).1, w0⟩
    show wpAny _ X.A ((compTurn (.ListComp elt [⟨tg, iter, ifs, 0⟩] scope pos) 0 (.ref it) (.ref s2.heap.objs.size) (compEnvC scope cs G.objs.size X.env)).onRaise (fun x => do noteFrame x (compEnvC scope cs G.objs.size X.env); theTreesLotGoes x)) _ _ s
    refine wpAny_noted ?_
    rw [compTurn_list]
    obtain ⟨i, τ, H3, I3, jr, lx, w3⟩ := hI
    rcases turn i n τ H3 w3 with ⟨stop, qn⟩ | ⟨go, step⟩
    · refine wpAny_bind (wpAny_standAt (wpAny_bind (wpAny_mono (T.done (nz X N' scope cs G.objs.size s2 H2 fp (dH scope)) rfl rfl rfl hc i [] s τ H3 (fun _ _ => False) I3 (stat lx) jr stop) (fun r s4 ⟨hr, I4⟩ => ?_) fun _ _ z => z.elim)))
      subst hr
      refine wpAny_pure ?_
      have J2 : Inv X pins σ H3 s4 := I.oh I4.os I4.base I4.hok I4.bare fun b hb => ⟨(f2 b hb).2.2.2.1, (f2 b hb).2.1, (f2 b hb).2.2.2.2.1, (f2 b hb).2.2.2.2.2⟩
      obtain ⟨mm, hm, _⟩ := I4.loc
      exact yc _ _ mm s4 H3 J2 (I.jP gO I4.free) hm qn
    · refine wpAny_bind (wpAny_standAt (wpAny_bind (wpAny_mono (T.item (nz X N' scope cs G.objs.size s2 H2 fp (dH scope)) rfl rfl rfl hc i [] s τ H3 (fun _ _ => False) I3 (stat lx) jr go) (fun r s4 ⟨u, hr, h4⟩ => ?_) fun _ _ z => z.elim)))
      subst hr
      refine wpAny_bind (wpAny_mono h4 (fun _ s5 ⟨x, H5, I5, r5, y5, gf, oq⟩ => ?_) fun _ _ z => z.elim)
      have ot := I5.pinned (stat oq) (T.obj _ _ gf)
      have again : ∀ {ik : St} {H7 : Hp} {s7 : Shared}, Inv (nz X N' scope cs G.objs.size s2 H2 fp (dH scope)) ([] ++ ie fp s5.heap) ik H7 s7 → (∃ m', m' < n ∧ W (i + 1) m' ik H7) →
          ∃ m, m < n ∧ ∃ i τ H', Inv (nz X N' scope cs G.objs.size s2 H2 fp (dH scope)) [] τ H' s7 ∧ bR i s7.heap ∧ (∀ b ∈ fp, H' b = none) ∧ W i m τ H' := fun {ik H7 s7} I7 n7 => by
        obtain ⟨m', hm, w7⟩ := n7
        refine ⟨m', hm, i + 1, ik, H7, I7.ei, T.keep _ _ _ gf fun b hb o e => (I7.pin (b, o) (List.mem_append_right _ (List.mem_append_right _ (cA hb e)))).1, fun b hb => ?_, w7⟩
        obtain ⟨o, e, d⟩ := T.obj _ _ gf b hb
        exact (I7.pin (b, o) (List.mem_append_right _ (List.mem_append_right _ (cA hb e)))).2.1
      refine wpAny_bind (wpAny_mono (hg cs G.objs.size s2 H2 fp _ s5 τ H5 x u _ ot r5 (step x H5 y5)) (fun _ s6 ⟨iD, H6, I6, q6⟩ => ?_) fun _ _ z => z.elim)
      refine wpAny_bind (wpAny_mono (ht cs G.objs.size s2 H2 fp _ s6 iD H6 _ I6 q6) (fun ok s7 ⟨H7, I7, q7⟩ => ?_) fun _ _ z => z.elim)
      cases ok with
      | false => exact wpAny_pure ⟨rfl, again I7 q7⟩
      | true =>
        refine wpAny_bind (wpAny_bind (wpAny_mono (he cs G.objs.size s2 H2 fp _ s7 iD H7 _ I7 q7) (fun yv s8 ⟨y, H8, I8, r8, q8⟩ => ?_) fun _ _ z => z.elim))
        obtain ⟨ys, m', hD, hsz, lH, w8⟩ := q8
        refine wpAny_bind (wpAny_mono (jt (X := nz X N' scope cs G.objs.size s2 H2 fp (dH scope)) _ s8 iD H8 (.ref s2.heap.objs.size) [y] (.ref s2.heap.objs.size) [yv] (fun v H9 => v = .au ∧ H9 = upd H8 s2.heap.objs.size (.lst (ys ++ [y]))) I8 rfl (.cons r8 .nil) ⟨_, ys, y, rfl, rfl, hD, hsz, rfl, rfl⟩) (fun rv s9 ⟨v9, H9, I9, _, _, e9⟩ => ?_) fun _ _ z => z.elim)
        subst e9
        exact wpAny_pure (wpAny_pure ⟨rfl, again I9 ⟨m', lH, w8⟩⟩)
  exact codeAny_compStart_list (loop _ rfl) (T.self _ 0 _ _ _ (T.keep _ _ _ st fun b _ o e => old b o e) (loop _ rfl))
variable {tg elt iter : Expr} {ifs : List Expr} {scope : Scope} {pos : Pos} {N' : List Str} {tn : Nat} {idx : List Nat} {wi : TI} {g : TG} {tt : TT} {te : TE}
variable {Γ : Gz}
theorem uP {i : Nat} {y : Str} {py dR : Pos} (hN : X.N.Nodup) (c9 : X.N[i]? = some y) (hy : X.env.scope.names.lookup y = some .local) (hc : X.calm = true) (B : dG X.N X.env.scope scope N' tn idx) (hi : PI X tg iter wi)
    (hg : kJ X N' scope fun Y => PG Y tg g) (ht : kJ X N' scope fun Y => fX Y ifs tt) (he : kJ X N' scope fun Y => PE Y elt te)
    (jW : swapsWith (.ListComp elt [⟨tg, iter, ifs, 0⟩] scope pos) (some (.Name y py)) dR.line X.env = pure true := by rfl)
    (hs : ∀ x, foldedSetIterable iter X.env x = pure x := by intro _; rfl) : PS X (.Assign [.Name y py] (.ListComp elt [⟨tg, iter, ifs, 0⟩] scope pos) dR) (nI (oB tn idx wi g tt te) (ke i)) := by
  refine ⟨?_⟩
  intro pins s σ H D I h
  obtain ⟨cl, fb, cG, ez⟩ := eu (scope := scope) (env := X.env) fun n hn => I.ok.has n ((B.2.1 _ hn).2.2 rfl)
  rw [exec_Assign_Name_used _ _ _ _ jW]
  refine wpAny_bind (wpAny_standAt (wpAny_bind ?_))
  show wpAny _ X.A (do let _ ← comprehension (.ListComp elt [⟨tg, iter, ifs, 0⟩] scope pos) scope X.env _ (newList []) false (eval iter X.env) (some (assign (.Name y py) X.env))) _ _ s
  refine wpAny_bind (wpAny_mono (wpAny_comprehension_free (use := some (assign (.Name y py) X.env)) (Q := fun _ s' => SP X pins D .next s') rfl hs fb B.1 (fun y hy => (B.2.1 y hy).2.1)
    (wpAny_mono (hi pins s σ H _ I h) (fun xv s1 h1 => wpAny_mono h1 (fun m5 s2 h2 => ?_) fun _ _ z => z) fun _ _ z => z)) (fun _ s' hq => wpAny_pure (wpAny_pure hq)) fun _ _ z => z)
  obtain ⟨it, fp, bR, J, H2, e, I2, T, gH, f2, q2⟩ := h2
  subst e
  refine wF (RR := fun acc C => compPost (model X.prog X.w) X.A X.xe (some (assign (.Name y py) X.env)) (fun _ s' => SP X pins D .next s') acc C) hc B hg ht he I2 T gH f2 cG ez q2 fun E C m s' H' J2 fC hm q => ?_
  show wpAny _ X.A (assign (.Name y py) X.env (.ref E)) _ _ s'
  refine wpAny_assign_Name (store_ok2 J2 hN c9 (.inl hy) (v := .ref E) rfl (fun s3 J3 ⟨a, yf, ha⟩ => ?_) (.inr hy))
  have fY : C ≠ a := by
    rcases ha with z | z
    · rw [z]; exact fC.2.1
    · exact fun w => fC.2.2.2.2.1 _ _ z w.symm
  exact ⟨m, hm.sameBut yf fY, fun h' gJ => ⟨_, H', fC.turn J3 gJ, q⟩⟩
end
theorem Bg {scope : Scope} {env : Env} {x : Str} (h : scope.names.lookup x = some .cell ∨ scope.names.lookup x = some .free) : (relabel scope env).names.lookup x = some .cell ∨ (relabel scope env).names.lookup x = some .free := by
  rw [c7]
  rcases h with h | h
  · rw [h]; exact .inl rfl
  · rw [h]
    simp only [Option.map_some]
    split
    · exact .inl rfl
    · exact .inr rfl
theorem aB.rel {N : List Str} {sc scope : Scope} {env : Env} {N' : List Str} {tn : Nat} {idx : List Nat} (B : aB N sc scope N' tn idx) : aB N (relabel sc env) scope N' tn idx :=
  ⟨B.1, fun y hy => ⟨(B.2.1 y hy).1, (B.2.1 y hy).2.1, fun z => Bg ((B.2.1 y hy).2.2 z)⟩, B.2.2.1, B.2.2.2⟩
end L2
namespace L2
open PySem PySem.Spec PySem.W PyProof.Rows
section
variable {X : Cx} {Γ : Gz} {β : Bz} {K : PySem.W.Frag}
noncomputable def boolsD : List Dv → Option (List Bool)
  | [] => some []
  | .bl b :: ds => (boolsD ds).map (b :: ·)
  | _ :: _ => none
theorem me : ∀ {ds : List Dv} {bs : List Bool}, boolsD ds = some bs → ds = bs.map Dv.bl
  | [], bs, h => by simp only [boolsD, Option.some.injEq] at h; subst h; rfl
  | d :: ds, bs, h => by
    cases d with
    | bl b =>
      simp only [boolsD, Option.map_eq_some_iff] at h
      obtain ⟨ms, h, rfl⟩ := h
      rw [me h]
      rfl
    | _ => simp [boolsD] at h
theorem iL : ∀ bs : List Bool, boolsD (bs.map Dv.bl) = some bs
  | [] => rfl
  | n :: ns => by simp [boolsD, iL ns]
theorem mh {M : Mh} {H : Hp} : ∀ {vs : List V} {bs : List Bool}, aI β M H vs (bs.map Dv.bl) → vs = bs.map V.bl
  | [], [], _ => rfl
  | [], _ :: _, r => absurd r.len (by simp)
  | _ :: _, [], r => absurd r.len (by simp)
  | v :: vs, n :: ns, r => by
    rw [List.map_cons] at r
    rw [List.map_cons, de r.head, mh r.tail]
noncomputable def zAllB (d : Dv) (M : Mh) (Q : ZK) : Prop := match d with | .lst ds => (match boolsD ds with | some bs => Q (.bl (bs.all id)) M | none => False) | _ => False
theorem tI (hK : X.K = K) (hc : X.calm = true) : fH Γ X (.builtin "all") (z1 zAllB) := ⟨_, wj hK hc, fun β xs ds M H Q Q' _ _ _ m rs z q => by
  unfold z1 at z
  split at z
  · obtain ⟨x, rfl, r⟩ := dw rs
    unfold zAllB at z
    split at z
    · split at z
      · rename_i bs Hb
        obtain ⟨a, vs, rfl, f, ha, cf⟩ := cT r
        have e := me Hb
        subst e
        have := mh cf
        subst this
        exact ⟨a, bs, rfl, bH.of ha, q _ _ _ _ (.refl m) (.bl _) z⟩
      · exact z.elim
    · exact z.elim
  · exact z.elim⟩
theorem Pin.mono {M M' : Mh} {d : Dv} (h : Pin M d) : (∀ a, (M a).isSome = true → (M' a).isSome = true) → Pin M' d := by
  intro k
  induction h with
  | int i => exact .int i
  | bl b => exact .bl b
  | au => exact .au
  | str z => exact .str z
  | tup h ih => exact .tup ih
  | lst h ih => exact .lst ih
  | dk h ih => exact .dk ih
  | dt h ih => exact .dt ih
  | cJ h ih => exact .cJ ih
  | set ns => exact .set ns
  | ptr h => exact .ptr (k _ h)
  | exc C => exact .exc C
  | bw ns => exact .bw ns
  | raw v => exact .raw v
noncomputable def bV (M : Mh) (a : Addr) : Mh := fun b => if b = a then none else M b
theorem cB {M : Mh} {a : Addr} : bV M a a = none := by unfold bV; rw [if_pos rfl]
theorem bQ {M : Mh} {a b : Addr} (h : b ≠ a) : bV M a b = M b := by unfold bV; rw [if_neg h]
theorem wG {M : Mh} {a : Addr} {o : Mo} (h : M a = none) : bV (av M a o) a = M := by
  funext b
  unfold bV av
  by_cases e : b = a
  · rw [if_pos e, e, h]
  · rw [if_neg e, if_neg e]
structure Bh (M1 M : Mh) (ρ : aA) : Prop where
  env : ∀ (i : Nat) (d : Dv), ρ[i]? = some (some d) → Pin M d
  obj : ∀ b o, M b = some o → M1 b = some o ∨ ∀ d ∈ o.items, Pin M d
theorem Zr.freeze {M : Mh} {ρ : aA} {σ : St} {H : Hp} {i : Nat} {a : Addr} {ds : List Dv} (z : Zr Γ β M ρ σ H) (hi : ρ[i]? = some (some (.ptr a))) (ha : M a = some (.lst ds)) (h0 : Γ.M0 a = none) (fr : Bh Γ.M0 (bV M a) (ρ.set i (some (.lst ds)))) :
    Zr Γ β (bV M a) (ρ.set i (some (.lst ds))) σ H ∧ Ev β M H (bV M a) H := by
  have rz : ∀ {v : V} {d : Dv}, Rz β M H v d → Pin (bV M a) d → Rz β (bV M a) H v d := fun r p => r.mP (M0 := bV M a) (fun b hb => by
    by_cases e : b = a
    · rw [e, cB] at hb; cases hb
    · rw [bQ e] at hb; exact hb) p
  have ka : i < ρ.length := (List.getElem?_eq_some_iff.mp hi).1
  have NK : ∀ d ∈ ds, Pin (bV M a) d := fun d hd => by
    have := fr.env i (.lst ds) (by rw [List.getElem?_set_self ka])
    cases this with | lst h => exact h d hd
  have obj : ∀ b es, bV M a b = some es → ∀ d ∈ es.items, Pin (bV M a) d := fun b es e d hd => by
    rcases fr.obj b es e with q | q
    · refine (z.wf b es q d hd).mono fun c hc => ?_
      have nc : c ≠ a := fun w => by rw [w, h0] at hc; cases hc
      rw [bQ nc]
      exact z.ent.dom c hc
    · exact q d hd
  have mz : Mz β (bV M a) H := by
    refine ⟨fun b o e => ?_, z.mz.tabs, z.mz.hids, fun b o e => ?_, z.mz.lams⟩
    · have nb : b ≠ a := fun q => by rw [q, cB] at e; cases e
      have e' : M b = some o := by rw [bQ nb] at e; exact e
      have q := z.mz.obj b o e'
      cases o with
      | lst es => obtain ⟨vs, hv, rs⟩ := q; exact ⟨vs, hv, rs.len, fun j v d x y => rz (rs.at' j v d x y) (obj b _ e d (List.mem_of_getElem? y))⟩
      | dk ks es => obtain ⟨vs, hv, hk, rs⟩ := q; exact ⟨vs, hv, hk, rs.len, fun j v d x y => rz (rs.at' j v d x y) (obj b _ e d (List.mem_of_getElem? y))⟩
      | dt ks es => obtain ⟨vs, hv, hk, rs⟩ := q; exact ⟨vs, hv, hk, rs.len, fun j v d x y => rz (rs.at' j v d x y) (obj b _ e d (List.mem_of_getElem? y))⟩
      | cH => exact q
    · have nb : b ≠ a := fun q => by rw [q, cB] at e; cases e
      rw [bQ nb] at e
      exact z.mz.apart b o e
  refine ⟨⟨z.eP, z.ew, z.eK, z.et, z.sub, z.wf, ⟨z.ent.keep, fun b hb => ?_, fun b o m h => ?_⟩, mz, by simp [z.len], fun j d e => ?_⟩, ⟨fun b o _ h => .inl h, fun b o m h => ?_, mz⟩⟩
  · have nb : b ≠ a := fun q => by rw [q, h0] at hb; cases hb
    rw [bQ nb]; exact z.ent.dom b hb
  · by_cases e : b = a
    · rw [e, cB]
    · rw [bQ e]; exact z.ent.new b o m h
  · have p := fr.env j d e
    rw [List.getElem?_set] at e
    split at e
    · rename_i q
      subst q
      first
        | cases e
        | (rw [if_pos ka] at e; cases e)
      obtain ⟨v, hv, r⟩ := z.at' i _ hi
      obtain ⟨rfl, _⟩ := bD r
      obtain ⟨vs, hl, rs⟩ := z.mz.obj a _ ha
      refine ⟨_, hv, .lst ⟨cB, z.mz.apart a _ ha⟩ hl rs.len fun k v d x y => rz (rs.at' k v d x y) (NK d (List.mem_of_getElem? y))⟩
    · obtain ⟨v, hv, r⟩ := z.at' j d e
      exact ⟨v, hv, rz r p⟩
  · by_cases e : b = a
    · rw [e, cB]
    · rw [bQ e]; exact m
noncomputable def Ml (i : Nat) (M0 : Mh) (p : cp) : cp := fun D ρ M => p D ρ M ∨ ∃ a ds, ρ[i]? = some (some (.ptr a)) ∧ M a = some (.lst ds) ∧ M0 a = none ∧ Bh M0 (bV M a) (ρ.set i (some (.lst ds))) ∧ p D (ρ.set i (some (.lst ds))) (bV M a)
theorem Hc (i : Nat) {M1 : Mh} {st : Stmt} {p : cp} (hM : Γ.M0 = M1) (h : QS Γ X st p) : QS Γ X st (Ml i M1 p) := h.imp fun D σ H ⟨β, ρ, M, D', zr, h, r⟩ => by
  rcases h with h | ⟨a, ds, hi, ha, h0, fr, h⟩
  · exact ⟨β, ρ, M, D', zr, h, r⟩
  · obtain ⟨z2, e2⟩ := zr.freeze hi ha (by rw [hM]; exact h0) (by rw [hM]; exact fr)
    exact ⟨β, _, _, D', z2, h, r.step e2⟩
end
section
variable {X : Cx} {Γ : Gz} {β : Bz}
inductive nA : Dv → Prop where
  | int (i : Int) : nA (.int i)
  | bl (b : Bool) : nA (.bl b)
  | au : nA .au
  | str (z : Str) : nA (.str z)
  | ptr (a : Addr) : nA (.ptr a)
  | tup {ds : List Dv} (h : ∀ d ∈ ds, nA d) : nA (.tup ds)
theorem Rz.grow {M : Mh} {H : Hp} {a : Addr} {us : List V} (ha : H a = some (.lst us)) {v : V} {d : Dv} (h : Rz β (bV M a) H v d) : nA d → Rz β M H v d := by
  induction h with
  | int i => exact fun _ => .int i
  | bl b => exact fun _ => .bl b
  | au => exact fun _ => .au
  | str z => exact fun _ => .str z
  | @tup p vs ds m e hl h ih =>
    intro n
    cases n with
    | tup n =>
      have hp : p ≠ a := fun z => by rw [z, ha] at e; cases e
      exact .tup ⟨by have := m.1; rw [bQ hp] at this; exact this, m.2⟩ e hl fun i v d x y => ih i v d x y (n d (List.mem_of_getElem? y))
  | @ptr p m =>
    intro _
    refine .ptr ?_
    by_cases z : p = a
    · rw [z, cB] at m; cases m
    · rw [bQ z] at m; exact m
  | _ => intro n; cases n
noncomputable def JD (i : Nat) (M0 : Mh) (p : aJ) : aJ := fun ρ M Q => p ρ M Q ∨ ∃ a xs, ρ[i]? = some (some (.ptr a)) ∧ M a = some (.lst xs) ∧ M0 a = none ∧ Bh M0 (bV M a) (ρ.set i (some (.lst xs))) ∧
  (∀ b o, M b = some o → b ≠ a → ∀ d ∈ o.items, nA d) ∧ p (ρ.set i (some (.lst xs))) (bV M a) fun d M2 => M2 = bV M a ∧ nA d ∧ Q d M
theorem D6 (i : Nat) {M1 : Mh} {e : Expr} {p : aJ} (hM : Γ.M0 = M1) (h : QE Γ X e p) : QE Γ X e (JD i M1 p) := h.imp fun σ H Q ⟨β, ρ, M, Q', zr, h, q⟩ => by
  rcases h with h | ⟨a, xs, hi, ha, h0, fr, hn, h⟩
  · exact ⟨β, ρ, M, Q', zr, h, q⟩
  · obtain ⟨z2, _⟩ := zr.freeze hi ha (by rw [hM]; exact h0) (by rw [hM]; exact fr)
    obtain ⟨vs, hv, rs⟩ := zr.mz.obj a _ ha
    refine ⟨β, _, _, _, z2, h, fun d M2 v H2 x r ⟨e, nl, hq⟩ => ?_⟩
    subst e
    have nv : H2 a = some (.lst vs) := x.get cB hv rfl
    have ey : Ey M H M H2 := ⟨fun b o hb ho => x.keep b o (by
      by_cases e : b = a
      · rw [e]; exact cB
      · rw [bQ e]; exact hb) ho, fun _ h => h, fun _ _ h _ => h⟩
    refine q d M v H2 ⟨ey, ⟨fun b o hb => ?_, x.mz.tabs, x.mz.hids, zr.mz.apart, x.mz.lams⟩⟩ (r.grow nv nl) hq
    by_cases e : b = a
    · subst e
      rw [ha] at hb
      cases hb
      exact ⟨vs, nv, rs.len, fun i v d p q => (rs.at' i v d p q).ey ey⟩
    · have z := x.mz.obj b o (by rw [bQ e]; exact hb)
      cases o with
      | cH => exact z
      | lst ds =>
        obtain ⟨us, hu, ru⟩ := z
        exact ⟨us, hu, ru.len, fun i v d p q => (ru.at' i v d p q).grow nv (hn b _ hb e d (List.mem_of_getElem? q))⟩
      | dk ks ds =>
        obtain ⟨us, hu, hk, ru⟩ := z
        exact ⟨us, hu, hk, ru.len, fun i v d p q => (ru.at' i v d p q).grow nv (hn b _ hb e d (List.mem_of_getElem? q))⟩
      | dt ks ds =>
        obtain ⟨us, hu, hk, ru⟩ := z
        exact ⟨us, hu, hk, ru.len, fun i v d p q => (ru.at' i v d p q).grow nv (hn b _ hb e d (List.mem_of_getElem? q))⟩
noncomputable def Bi (neg : Bool) : R2 := fun x y H Q => ∃ (p : Addr) (xs : List V) (d : Dt) (ds : List Dt), y = .ref p ∧ H p = some (.lst xs) ∧ dB H x d ∧ xs.length = ds.length ∧ (∀ (i : Nat) (v : V) (t : Dt), xs[i]? = some v → ds[i]? = some t → dB H v t) ∧
  (∀ t ∈ ds, il t ≤ 60) ∧ Q (.bl (if neg then !(ds.any fun t => cy t d) else ds.any fun t => cy t d)) H
open Classical in
theorem y3 {pins : List (Addr × Obj)} {σ : St} {H : Hp} {s : Shared} (I : Inv X pins σ H s) {x : V} {v : Value} {d : Dt} {xs : List V} {ds : List Dt} {its : List Value} (rx : RelV x v) (hx : dB H x d) (rv : Vals xs its) (hl : xs.length = ds.length)
    (i5 : ∀ (i : Nat) (v : V) (t : Dt), xs[i]? = some v → ds[i]? = some t → dB H v t) (y6 : ∀ t ∈ ds, il t ≤ 60) (hu : X.A.units + 64 < cLine) :
    ∃ e : Value → Bool, (∀ y ∈ its, SeqAt.EqAt X.A.in1 s y v (e y)) ∧ its.any e = ds.any fun t => cy t d := by
  have qM := rv.length
  let e : Value → Bool := fun y => decide (∃ (i : Nat) (t : Dt), its[i]? = some y ∧ ds[i]? = some t ∧ cy t d = true)
  have key : ∀ (i : Nat) (y : Value) (t : Dt), its[i]? = some y → ds[i]? = some t → e y = cy t d := fun i y t hi ht => by
    cases hE : cy t d with
    | true => exact decide_eq_true ⟨i, t, hi, ht, hE⟩
    | false =>
      refine decide_eq_false fun ⟨j, t', hj, NM, he⟩ => ?_
      obtain ⟨a, ha, ra⟩ := iI rv hi
      obtain ⟨b, hb, rb⟩ := iI rv hj
      have NN := ra.inj rb
      subst NN
      have := (i5 i a t ha ht).inj (i5 j a t' hb NM)
      subst this
      rw [he] at hE
      cases hE
  refine ⟨e, fun y hy => ?_, ?_⟩
  · obtain ⟨i, hi⟩ := List.mem_iff_getElem?.mp hy
    obtain ⟨a, ha, ra⟩ := iI rv hi
    have mi : i < ds.length := by
      have := (List.getElem?_eq_some_iff.mp ha).1
      omega
    have ht := List.getElem?_eq_getElem mi
    rw [key i y _ hi ht]
    refine sN I (i5 i a _ ha ht) hx ra rx ?_
    have := y6 _ (List.getElem_mem mi)
    have : X.A.in1.units = X.A.units + 1 := rfl
    omega
  · rw [Bool.eq_iff_iff, List.any_eq_true, List.any_eq_true]
    constructor
    · rintro ⟨y, hy, he⟩
      obtain ⟨i, t, _, ht, h⟩ := of_decide_eq_true he
      exact ⟨t, List.mem_of_getElem? ht, h⟩
    · rintro ⟨t, ht, h⟩
      obtain ⟨i, hi⟩ := List.mem_iff_getElem?.mp ht
      have mi : i < its.length := by
        have := (List.getElem?_eq_some_iff.mp hi).1
        omega
      exact ⟨_, List.getElem_mem mi, by rw [key i _ t (List.getElem?_eq_getElem mi) hi]; exact h⟩
theorem Hd (hu : X.A.units + 64 < cLine) : OpR X (compareOp .In) (Bi false) := by
  intro pins s σ H x y v u Q I rx ry h
  obtain ⟨p, xs, d, ds, rfl, hp, hx, hl, i5, y6, q⟩ := h
  cases ry
  obtain ⟨its, rv, pl⟩ := I.lists hp
  obtain ⟨e, he, Bj⟩ := y3 I rx hx rv hl i5 y6 hu
  refine SeqAt.in_listAt e pl (fun y hy => he y (by simpa using hy)) ⟨.bl _, H, I, rfl, ?_⟩
  rw [show its.toArray.any e = its.any e by simp, Bj]
  exact q
theorem y7 (hu : X.A.units + 64 < cLine) : OpR X (compareOp .NotIn) (Bi true) := by
  intro pins s σ H x y v u Q I rx ry h
  obtain ⟨p, xs, d, ds, rfl, hp, hx, hl, i5, y6, q⟩ := h
  cases ry
  obtain ⟨its, rv, pl⟩ := I.lists hp
  obtain ⟨e, he, Bj⟩ := y3 I rx hx rv hl i5 y6 hu
  refine SeqAt.notIn_listAt e pl (fun y hy => he y (by simpa using hy)) ⟨.bl _, H, I, rfl, ?_⟩
  rw [show its.toArray.any e = its.any e by simp, Bj]
  exact q
noncomputable def mj (neg : Bool) : eh := fun d e M Q => match bM (now M d), (now M e) with
  | some a, .lst ds => (match fJ ds with | some ts => (∀ t ∈ ts, il t ≤ 60) ∧ Q (.bl (if neg then !(ts.any fun t => cy t a) else ts.any fun t => cy t a)) M | none => False)
  | _, _ => False
theorem vE {neg : Bool} : ni Γ (Bi neg) (mj neg) := fun β x y d e M H Q Q' _ _ _ m rx ry z q => by
  unfold mj at z
  split at z
  · rename_i a ds h1 h2
    split at z
    · rename_i ts NP
      have hy : dB H y (.lst ts) := mM m ry (by rw [h2]; simp only [bM, NP, Option.map_some])
      have hx : dB H x a := mM m rx h1
      cases hy with
      | lst e hl i5 => exact ⟨_, _, a, ts, rfl, e, hx, hl, i5, z.1, q _ _ _ _ (.refl m) (.bl _) z.2⟩
    · exact z.elim
  · exact z.elim
theorem JE (hu : X.A.units + 64 < cLine) : eR Γ X (compareOp .In) (mj false) := ⟨_, Hd hu, vE⟩
theorem Bk (hu : X.A.units + 64 < cLine) : eR Γ X (compareOp .NotIn) (mj true) := ⟨_, y7 hu, vE⟩
end
end L2
namespace L2
open PySem PySem.Spec PyProof.Rows
section
variable {κ : Type} [DecidableEq κ] {α : Type}
noncomputable def look : List κ → List α → κ → Option α
  | k :: ks, d :: ds, x => if k = x then some d else look ks ds x
  | _, _, _ => none
noncomputable def hZ : List κ → List α → κ → α → List α
  | k :: ks, d :: ds, x, y => (if k = x then y else d) :: hZ ks ds x y
  | _, _, _, _ => []
noncomputable def putL (ks : List κ) (k : κ) : List κ := if k ∈ ks then ks else ks ++ [k]
noncomputable def cR (ks : List κ) (ds : List α) (k : κ) (d : α) : List α := if k ∈ ks then hZ ks ds k d else ds ++ [d]
theorem iw {x : κ} : ∀ {ks : List κ} {ds : List α}, ks.length = ds.length → (look ks ds x = none ↔ x ∉ ks)
  | [], [], _ => by simp [look]
  | k :: ks, d :: ds, h => by
    have ih := iw (x := x) (ks := ks) (ds := ds) (by simpa using h)
    unfold look
    by_cases e : k = x
    · simp [e]
    · rw [if_neg e, ih, List.mem_cons]
      constructor
      · rintro a (b | b)
        · exact e b.symm
        · exact a b
      · exact fun a b => a (.inr b)
  | [], _ :: _, h => by simp at h
  | _ :: _, [], h => by simp at h
theorem gV (x : κ) : ∀ (ks : List κ) (vs : List V), eL (ks.zip vs) x = look ks vs x
  | [], vs => by cases vs <;> rfl
  | _ :: _, [] => rfl
  | k :: ks, v :: vs => by
    rw [List.zip_cons_cons]
    unfold look
    by_cases e : k = x
    · rw [if_pos e]; exact kj (p := (k, v)) e
    · rw [if_neg e, km (p := (k, v)) e]; exact gV x ks vs
theorem tJ (x : κ) : ∀ (ks : List κ) (ds : List α) {d : α}, look ks ds x = some d → ∃ i : Nat, ks[i]? = some x ∧ ds[i]? = some d ∧ ∀ {β : Type} (es : List β), look ks es x = es[i]?
  | [], ds, d, h => by cases ds <;> cases h
  | _ :: _, [], d, h => by cases h
  | k :: ks, e :: ds, d, h => by
    unfold look at h
    by_cases q : k = x
    · rw [if_pos q] at h
      cases h
      refine ⟨0, by rw [q]; rfl, rfl, fun es => ?_⟩
      cases es with
      | nil => rfl
      | cons a es => unfold look; rw [if_pos q]; rfl
    · rw [if_neg q] at h
      obtain ⟨i, a, b, c⟩ := tJ x ks ds h
      refine ⟨i + 1, a, b, fun es => ?_⟩
      cases es with
      | nil => rfl
      | cons y es => unfold look; rw [if_neg q, c es]; rfl
theorem je (x : κ) : ∀ (ks : List κ) (ds : List α) {β : Type} (es : List β), ds.length = es.length → look ks ds x = none → look ks es x = none
  | [], ds, _, es, _, _ => by cases es <;> rfl
  | _ :: _, [], _, es, h, _ => by cases es with
    | nil => rfl
    | cons _ _ => simp at h
  | k :: ks, d :: ds, _, [], h, _ => by simp at h
  | k :: ks, d :: ds, _, e :: es, h, q => by
    unfold look at q ⊢
    by_cases z : k = x
    · rw [if_pos z] at q; cases q
    · rw [if_neg z] at q ⊢
      exact je x ks ds es (by simpa using h) q
theorem qX (x : κ) (y : α) : ∀ (ks : List κ) (ds : List α), ks.length = ds.length → (hZ ks ds x y).length = ds.length
  | [], [], _ => rfl
  | k :: ks, d :: ds, h => by unfold hZ; rw [List.length_cons, qX x y ks ds (by simpa using h)]; rfl
  | [], _ :: _, h => by simp at h
  | _ :: _, [], h => by simp at h
theorem kM {ks : List κ} {ds : List α} (h : ks.length = ds.length) (k : κ) (d : α) : (putL ks k).length = (cR ks ds k d).length := by
  unfold putL cR
  split
  · rw [qX _ _ _ _ h, h]
  · simp [h]
theorem qY (x : κ) (y : V) : ∀ (ks : List κ) (vs : List V), ks.length = vs.length → (ks.zip vs).map (fun kv => if kv.1 = x then (kv.1, y) else kv) = ks.zip (hZ ks vs x y)
  | [], [], _ => rfl
  | k :: ks, d :: ds, h => by
    unfold hZ
    rw [List.zip_cons_cons, List.zip_cons_cons, List.map_cons, qY x y ks ds (by simpa using h)]
    congr 1
    dsimp only
    split <;> rfl
  | [], _ :: _, h => by simp at h
  | _ :: _, [], h => by simp at h
theorem mQ {ks : List κ} {vs : List V} (h : ks.length = vs.length) (k : κ) (v : V) : putK (ks.zip vs) k v = (putL ks k).zip (cR ks vs k v) := by
  have e : ((ks.zip vs).any fun kv => decide (kv.1 = k)) = decide (k ∈ ks) := by
    rw [nN, gV]
    cases q : look ks vs k with
    | none => exact (decide_eq_false ((iw h).mp q)).symm
    | some x =>
      have hm : k ∈ ks := Classical.byContradiction fun z => by rw [(iw h).mpr z] at q; cases q
      rw [decide_eq_true hm]; rfl
  unfold putK putL cR
  rw [e]
  by_cases q : k ∈ ks
  · rw [if_pos (decide_eq_true q), if_pos q, if_pos q]
    exact qY k v ks vs h
  · rw [if_neg (by rw [decide_eq_false q]; exact Bool.false_ne_true), if_neg q, if_neg q, List.zip_append h]
    rfl
end
section
variable {β : Bz} {M : Mh} {H : Hp} {κ : Type} [DecidableEq κ]
theorem qZ (x : κ) {v : V} {d : Dv} (r : Rz β M H v d) : ∀ (ks : List κ) (vs : List V) (ds : List Dv), aI β M H vs ds → aI β M H (hZ ks vs x v) (hZ ks ds x d)
  | [], _, _, _ => by
    unfold hZ; exact .nil
  | _ :: _, [], [], _ => .nil
  | _ :: _, [], _ :: _, h => absurd h.len (by simp)
  | _ :: _, _ :: _, [], h => absurd h.len (by simp)
  | k :: ks, u :: vs, e :: ds, h => by
    unfold hZ
    refine .cons ?_ (qZ x r ks vs ds h.tail)
    split
    · exact r
    · exact h.head
theorem jf (x : κ) {v : V} {d : Dv} (r : Rz β M H v d) {ks : List κ} {vs : List V} {ds : List Dv} (h : aI β M H vs ds) : aI β M H (cR ks vs x v) (cR ks ds x d) := by
  unfold cR
  split
  · exact qZ x r ks vs ds h
  · exact h.snoc r
theorem nS {ks : List κ} {vs : List V} {ds : List Dv} (rs : aI β M H vs ds) {x : κ} {o : Option Dv} (h : look ks ds x = o) : ∃ ov, eL (ks.zip vs) x = ov ∧ ov.isSome = o.isSome ∧ ∀ r, o = some r → ∃ v, ov = some v ∧ Rz β M H v r := by
  rw [gV]
  cases o with
  | none => exact ⟨none, je x ks ds vs rs.len.symm h, rfl, fun r e => nomatch e⟩
  | some r =>
    obtain ⟨i, a, b, c⟩ := tJ x ks ds h
    obtain ⟨v, hv, rv⟩ := rs.get b
    exact ⟨some v, (c vs).trans hv, rfl, fun r' e => by cases e; exact ⟨v, rfl, rv⟩⟩
end
noncomputable def keyD : Dv → Option Key
  | .int i => some (.inl i)
  | .str z => some (.inr z)
  | _ => none
noncomputable def eU : List Dv → Option (List Key)
  | [] => some []
  | d :: ds => match keyD d, eU ds with | some k, some ks => some (k :: ks) | _, _ => none
theorem oS : ∀ (ns : List Int), eU (ns.map Dv.int) = some (ns.map Sum.inl)
  | [] => rfl
  | n :: ns => by rw [List.map_cons, eU, oS ns]; rfl
noncomputable def nowK (M : Mh) : Dv → Dv
  | .ptr a => match M a with | some (.dk ks ds) => .dk ks ds | some (.dt ks ds) => .dt ks ds | _ => .ptr a
  | d => d
noncomputable def lookD (M : Mh) (d e : Dv) : Option (Option Dv) := match nowK M d with
  | .dk ks ds => (match keyD e with | some k => some (look ks ds k) | none => none)
  | .dt ks ds => (match e with | .tup es => (match eU es with | some k => some (look ks ds k) | none => none) | _ => none)
  | _ => none
section
variable {X : Cx} {Γ : Gz} {β : Bz} {K : PySem.W.Frag} {M : Mh} {H : Hp}
theorem pX {y : V} {e : Dv} {k : Key} (r : Rz β M H y e) (h : keyD e = some k) : y = kV k := by
  cases e with
  | int i => cases h; exact aN r
  | str z => cases h; exact ef r
  | _ => cases h
theorem gW : ∀ {es : List Dv} {ks : List Key} {vs : List V}, aI β M H vs es → eU es = some ks → vs = ks.map kV
  | [], ks, vs, rs, h => by
    cases h
    cases vs with
    | nil => rfl
    | cons _ _ => exact absurd rs.len (by simp)
  | e :: es, ks, [], rs, h => absurd rs.len (by simp)
  | e :: es, ks, v :: vs, rs, h => by
    unfold eU at h
    split at h
    · rename_i k OV h1 h2
      cases h
      rw [List.map_cons, pX rs.head h1, gW rs.tail h2]
    · cases h
theorem pY (m : Mz β M H) {x : V} {d : Dv} (r : Rz β M H x d) : (∀ ks ds, nowK M d = .dk ks ds → ∃ a vs, x = .ref a ∧ Rd H a (.dK (ks.zip vs)) ∧ ks.length = vs.length ∧ aI β M H vs ds) ∧
    (∀ ks ds, nowK M d = .dt ks ds → ∃ a vs, x = .ref a ∧ Rd H a (.dT (ks.zip vs)) ∧ ks.length = vs.length ∧ aI β M H vs ds) := by
  cases r with
  | dk f e hk hl h => exact ⟨fun ks ds q => (by cases q; exact ⟨_, _, rfl, e, hk, hl, h⟩), fun ks ds q => by cases q⟩
  | dt f e hk hl h => exact ⟨fun ks ds q => (by cases q), fun ks ds q => by cases q; exact ⟨_, _, rfl, e, hk, hl, h⟩⟩
  | @ptr a hs =>
    simp only [nowK]
    cases q2 : M a with
    | none => rw [q2] at hs; cases hs
    | some o =>
      have q := m.obj a o q2
      cases o with
      | dk ks ds => obtain ⟨vs, e, hk, rs⟩ := q; exact ⟨fun ks ds q => (by cases q; exact ⟨_, _, rfl, .inl e, hk, rs⟩), fun ks ds q => by cases q⟩
      | dt ks ds => obtain ⟨vs, e, hk, rs⟩ := q; exact ⟨fun ks ds q => (by cases q), fun ks ds q => by cases q; exact ⟨_, _, rfl, .inl e, hk, rs⟩⟩
      | _ => exact ⟨fun ks ds q => (by cases q), fun ks ds q => by cases q⟩
  | _ => exact ⟨fun ks ds q => (by cases q), fun ks ds q => (by cases q)⟩
theorem kN (m : Mz β M H) {x y : V} {d e : Dv} {o : Option Dv} (r : Rz β M H x d) (re : Rz β M H y e) (h : lookD M d e = some o) : ∃ a ov, x = .ref a ∧ jR H a y ov ∧ ov.isSome = o.isSome ∧ ∀ r, o = some r → ∃ v, ov = some v ∧ Rz β M H v r := by
  unfold lookD at h
  obtain ⟨h1, h2⟩ := pY m r
  split at h
  · rename_i ks ds q
    obtain ⟨a, vs, rfl, ha, hk, rs⟩ := h1 ks ds q
    split at h
    · rename_i k oT
      rw [pX re oT]
      obtain ⟨ov, e1, e2, e3⟩ := nS rs (Option.some.inj h)
      subst e1
      exact ⟨a, _, rfl, .inl ⟨_, k, ha, rfl, rfl⟩, e2, e3⟩
    · cases h
  · rename_i ks ds q
    obtain ⟨a, vs, rfl, ha, hk, rs⟩ := h2 ks ds q
    split at h
    · split at h
      · rename_i k oT
        obtain ⟨b, us, rfl, _, hb, ru⟩ := bX re
        rw [gW ru oT] at hb
        obtain ⟨ov, e1, e2, e3⟩ := nS rs (Option.some.inj h)
        subst e1
        exact ⟨a, _, rfl, .inr ⟨_, k, b, ha, rfl, hb, rfl⟩, e2, e3⟩
      · cases h
    · cases h
  · cases h
noncomputable def zGetR : eh := fun d e M Q => match lookD M d e with | some (some r) => Q r M | _ => False
theorem ME {a b : Expr} {pa pb : aJ} {pos : Pos} (hu : X.A.units + 64 < cLine) (ha : QE Γ X a pa) (hb : QE Γ X b pb) (hs : AY b) : QE Γ X (.Subscript a b pos) (zOp zGetR pa pb) :=
  (DT (by omega) ha hb hs).imp fun σ H Q ⟨β, ρ, M, Q', zr, h, q⟩ => ⟨β, ρ, M, _, zr, h, fun d M1 v H1 x1 r1 h1 => ⟨β, ρ, M1, _, zr.step x1, h1, fun e M2 u H2 x2 r2 h2 => by
    unfold zGetR at h2
    split at h2
    · rename_i r hl
      obtain ⟨a, ov, rfl, g, _, e3⟩ := kN x2.mz (r1.ex x2) r2 hl
      obtain ⟨w, rfl, eW⟩ := e3 r rfl
      exact ⟨a, w, rfl, g, q _ _ _ _ (x1.trans x2) eW h2⟩
    · exact h2.elim⟩⟩
noncomputable def zDIn (neg : Bool) : eh := fun e d M Q => match lookD M d e with | some o => Q (.bl (if neg then !o.isSome else o.isSome)) M | none => False
noncomputable def He (neg : Bool) : R2 := fun y x H Q => ∃ a o, x = .ref a ∧ jR H a y o ∧ Q (.bl (if neg then !o.isSome else o.isSome)) H
theorem D7 {neg : Bool} : ni Γ (He neg) (zDIn neg) := fun β x y d e M H Q Q' _ _ _ m rx ry z q => by
  unfold zDIn at z
  split at z
  · rename_i o hl
    obtain ⟨a, ov, rfl, g, e2, _⟩ := kN m ry rx hl
    refine ⟨a, ov, rfl, g, ?_⟩
    rw [e2]
    exact q _ _ _ _ (.refl m) (.bl _) z
  · exact z.elim
theorem nT (hu : X.A.units + 64 < cLine) : eR Γ X (compareOp .NotIn) (zDIn true) := ⟨He true, fun pins s σ H x y v u Q I rx ry ⟨a, o, e, g, q⟩ => by
  subst e
  cases (show u = Value.ref a from ry)
  exact DR (by omega) I g rx fun s3 I3 => ⟨.bl (!o.isSome), H, I3, rfl, q⟩, D7⟩
noncomputable def zMGet : ll := fun d ds M Q => match ds with
  | [e] => (match lookD M d e with | some o => Q (o.getD .au) M | none => False)
  | [e, z] => (match lookD M d e with | some o => Q (o.getD z) M | none => False)
  | _ => False
noncomputable def JF : V → List V → Hp → VK → Prop := fun x xs H Q => (∃ a y o, x = .ref a ∧ xs = [y] ∧ jR H a y o ∧ Q (o.getD .au) H) ∨ ∃ a y z o, x = .ref a ∧ xs = [y, z] ∧ jR H a y o ∧ Q (o.getD z) H
theorem Hf (hu : X.A.units + 64 < cLine) : nu Γ X "dict" "dict.get" K zMGet := ⟨JF, fun pins s σ H x xs v us Q I rx rs h => by
  rcases h with ⟨a, y, o, rfl, rfl, g, q⟩ | ⟨a, y, z, o, rfl, rfl, g, q⟩
  · cases (show v = Value.ref a from rx)
    cases rs with
    | cons r1 rs => cases rs; exact GP (by omega) I g r1 fun w' s3 I3 eW => ⟨_, H, I3, eW, q⟩
  · cases (show v = Value.ref a from rx)
    cases rs with
    | cons r1 rs => cases rs with
      | cons r2 rs => cases rs; exact GQ (by omega) I g r1 r2 fun w' s3 I3 eW => ⟨_, H, I3, eW, q⟩, fun β x xs d ds M H Q Q' _ _ _ m rx rs z q => by
  unfold zMGet at z
  split at z
  · split at z
    · rename_i o hl
      obtain ⟨y, rfl, ry⟩ := dw rs
      obtain ⟨a, ov, rfl, g, e2, e3⟩ := kN m rx ry hl
      refine .inl ⟨a, y, ov, rfl, rfl, g, ?_⟩
      cases o with
      | none => cases ov with
        | none => exact q _ _ _ _ (.refl m) .au z
        | some _ => cases e2
      | some r =>
        obtain ⟨w, rfl, eW⟩ := e3 r rfl
        exact q _ _ _ _ (.refl m) eW z
    · exact z.elim
  · split at z
    · rename_i o hl
      obtain ⟨y, u, rfl, ry, ru⟩ := gR rs
      obtain ⟨a, ov, rfl, g, e2, e3⟩ := kN m rx ry hl
      refine .inr ⟨a, y, u, ov, rfl, rfl, g, ?_⟩
      cases o with
      | none => cases ov with
        | none => exact q _ _ _ _ (.refl m) ru z
        | some _ => cases e2
      | some r =>
        obtain ⟨w, rfl, eW⟩ := e3 r rfl
        exact q _ _ _ _ (.refl m) eW z
    · exact z.elim
  · exact z.elim⟩
end
section
variable {β : Bz} {M : Mh} {H : Hp} {D : Addr} {o' : Mo} {u : HO}
theorem D8 {v : V} {d : Dv} (r : Rz (β.add D) M H v d) : Rz β (av M D o') (upd H D u) v d := by
  have na : ∀ a, Fz (β.add D) M a → a ≠ D := fun a f z => f.2 (by rw [z]; exact List.mem_cons_self)
  have ne : ∀ a, Fz (β.add D) M a → Fz β (av M D o') a := fun a f => ⟨by rw [ao (na a f)]; exact f.1, fun z => f.2 (List.mem_cons_of_mem _ z)⟩
  have pre : ∀ a x, Fz (β.add D) M a → H a = some x → upd H D u a = some x := fun a x f e => by rw [ai (na a f)]; exact e
  induction r with
  | int i => exact .int i
  | bl b => exact .bl b
  | au => exact .au
  | str z => exact .str z
  | tup m e hl h ih => exact .tup (ne _ m) (pre _ _ m e) hl ih
  | lst m e hl h ih => exact .lst (ne _ m) (pre _ _ m e) hl ih
  | dk m e hk hl h ih => exact .dk (ne _ m) (e.map fun _ h => pre _ _ m h) hk hl ih
  | dt m e hk hl h ih => exact .dt (ne _ m) (e.map fun _ h => pre _ _ m h) hk hl ih
  | cJ m e m2 e2 hl h ih => exact .cJ (ne _ m) (pre _ _ m e) (ne _ m2) (pre _ _ m2 e2) hl ih
  | set m e => exact .set (ne _ m) (pre _ _ m e)
  | ptr m => exact .ptr (by unfold av; split; rfl; exact m)
  | exc m e => exact .exc (ne _ m) (pre _ _ m e)
  | bw m e => exact .bw (ne _ m) (pre _ _ m e)
  | cj m e => exact .cj (ne _ m) (pre _ _ m e)
  | ck e => exact .ck e
  | raw v => exact .raw v
theorem jg {vs : List V} {ds : List Dv} (r : aI (β.add D) M H vs ds) : aI β (av M D o') (upd H D u) vs ds := ⟨r.len, fun i v d a b => D8 (r.at' i v d a b)⟩
theorem Ex.y8 {M2 : Mh} {H2 : Hp} {o : HO} (x : Ex β M H M2 H2) (hD : D ∈ β.hid) (m : M D = none) (h : H D = some o) (ho : wt o = true) : H2 D = some o := by
  rcases x.keep D o m h with q | ⟨o', t, q⟩
  · exact q
  · rcases t with ⟨_, _, rfl, _⟩ | ⟨_, _, rfl, _⟩ | ⟨_, ob, rfl⟩
    · cases ho
    · cases ho
    · obtain ⟨w, e, n⟩ := x.mz.hids D hD
      rw [q] at e; cases e; cases n
theorem Mz.Hg (m : Mz (β.add D) M H) (hM : M D = none) (hD : D ∉ β.hid) (nt : D ∉ β.tb) (hu : lQ u = true) (r : ip β (av M D o') (upd H D u) D o') : Mz β (av M D o') (upd H D u) := by
  obtain ⟨oD, eD, nD⟩ := m.hids D List.mem_cons_self
  refine ⟨fun a o e => ?_, fun q hq => ?_, fun a ha => (m.hids a (List.mem_cons_of_mem _ ha)).upd (.inr hu), fun a o e z => ?_, fun q hq => ?_⟩
  · by_cases ha : a = D
    · subst ha
      rw [updM_same] at e
      cases e
      exact r
    · rw [ao ha] at e
      have z := m.obj a o e
      cases o with
      | lst ds => obtain ⟨vs, z, rs⟩ := z; exact ⟨vs, by rw [ai ha]; exact z, jg rs⟩
      | dk ks ds => obtain ⟨vs, z, hk, rs⟩ := z; exact ⟨vs, by rw [ai ha]; exact z, hk, jg rs⟩
      | dt ks ds => obtain ⟨vs, z, hk, rs⟩ := z; exact ⟨vs, by rw [ai ha]; exact z, hk, jg rs⟩
      | cH => obtain ⟨c, n, z, q⟩ := z; exact ⟨c, n, by rw [ai ha]; exact z, q⟩
  · obtain ⟨ps, e, t⟩ := m.tabs q hq
    exact ⟨ps, by rw [ai (show q ≠ D from fun z => nt (by rw [← z]; exact hq))]; exact e, t⟩
  · by_cases ha : a = D
    · exact hD (ha ▸ z)
    · rw [ao ha] at e
      exact m.apart a o e (List.mem_cons_of_mem _ z)
  · exact (m.lams q hq).keep (fun _ e => by rw [ai (fun z => by subst z; rw [eD] at e; cases e; cases nD)]; exact e) fun c _ _ e => by rw [ai (fun z => by subst z; rw [eD] at e; cases e; cases nD)]; exact e
end
section
variable {X : Cx} {pos : Pos}
noncomputable def D9 (tk tv : TE) : TE := fun σ H Q => ∀ p, H p = none → tk σ (upd H p (.dT [])) fun x H1 => tv σ H1 fun y H2 => H2 p = some (.dT []) ∧ ∃ b k, x = .ref b ∧ H2 b = some (.tup (k.map kV)) ∧ Q (.ref p) (upd H2 p (.dT [(k, y)]))
theorem y9 {k v : Expr} {tk tv : TE} (hu : X.A.units + 1 < cLine) (hk : PE X k tk) (hv : PE X v tv) : PE X (.Dict [some k] [v] pos) (D9 tk tv) := by
  refine ⟨?_⟩
  intro pins s σ H Q I q
  have hn := I.hok.fresh (Nat.le_refl s.heap.objs.size)
  have I1 := I.laid (a := s.heap.objs.size) (o := .dT []) (h' := s.heap.push { cls := .type "dict", data := .dict #[] }) (t' := s.toks) (fun _ _ q => Heap.get?_push_of_some _ q) (Nat.le_refl _) (sU s.heap I.big)
  refine wpAny_Dict_any rfl rfl (by simp) (by simp) (pairTrees_cons_walk (thn (hk pins _ σ _ _ I1 (q _ hn)) fun w1 s2 ⟨x, H1, I2, rx, q1⟩ => thn (hv pins s2 σ H1 _ I2 q1) fun w2 s3 ⟨y, H2, I3, ry, hp, b, ks, ex, hb, q2⟩ => pairTrees_nil_walk ?_))
  subst ex
  cases (show w1 = Value.ref b from rx)
  unfold storeAll
  rw [List.forIn_cons]
  obtain ⟨z, hd, xs, rel, dd⟩ := rQ I3.hok hp
  cases rel
  refine wpAny_bind (wpAny_bind (wpAny_dictSet_heap (knd := tupleKind (bA X.prog X.w)) (by show X.A.units < cLine; omega) (gu I3.hok hb) dd (fun h' jZ hs => wpAny_pure ?_) (by simp)))
  dsimp only
  rw [List.forIn_nil]
  refine wpAny_pure ⟨.ref s.heap.objs.size, _, ?_, rfl, q2⟩
  obtain ⟨o, es, ep, ho, h2, h3, h4, h5, h6⟩ := jZ
  have he : storedH ([] : List (List Key × Addr × Value)) ks b w2 = [(ks, b, w2)] := rfl
  rw [he] at h4 h6
  refine iQ I3 (by rw [hp]; exact True.intro) hs ⟨o, ho⟩ ⟨by show 1 ≤ sizeLine; decide, hd, [(ks, b, w2)], .cons ⟨rfl, ?_, ry⟩ .nil, o, es, ep, ho, h2, h3, h4, h6⟩
  rw [ai (og hb hp (by intro z; cases z))]
  exact hb
end
section
variable {X : Cx} {Γ : Gz} {β : Bz} {K : PySem.W.Frag}
noncomputable def zDNewT : aJ := fun _ M Q => ∀ a, M a = none → Q (.ptr a) (av M a (.dt [] []))
theorem Bm {pos : Pos} : QE Γ X (.Dict [] [] pos) zDNewT := A0.imp fun σ H Q ⟨β, ρ, M, Q', zr, h, q⟩ p hp =>
  q _ _ _ _ (Ex.A7 (ks := []) (vs := []) (ds := []) zr.mz (.inr hp) rfl .nil) (.ptr (by rw [updM_same]; rfl)) (h p (zr.mz.free hp))
noncomputable def zDisp1K (pk pv : aJ) : aJ := fun ρ M Q => pk ρ M fun e M1 => pv ρ M1 fun v M2 => match keyD e with | some k => ∀ a, M2 a = none → Q (.ptr a) (av M2 a (.dk [k] [v])) | none => False
noncomputable def zDisp1T (pk pv : aJ) : aJ := fun ρ M Q => pk ρ M fun e M1 => pv ρ M1 fun v M2 => match e with | .tup es => (match eU es with | some k => ∀ a, M2 a = none → Q (.ptr a) (av M2 a (.dt [k] [v])) | none => False) | _ => False
theorem Ea {M M2 : Mh} {H H2 : Hp} {D : Addr} {o : HO} {o' : Mo} {u : HO} (hD : H D = none) (x : Ex (β.add D) M (upd H D o) M2 H2) (mz : Mz β (av M2 D o') (upd H2 D u)) : Ex β M H (av M2 D o') (upd H2 D u) := by
  have ey : Ey M H M2 (upd H2 D u) := ((Ey.refl (M := M) (H := H)).over (o := o) hD |>.trans x.toEy).over hD
  exact ⟨⟨ey.keep, fun a h => by unfold av; split; rfl; exact ey.dom a h, fun a w m e => by rw [ao (bh e hD)]; exact ey.new a w m e⟩, mz⟩
theorem KO {k v : Expr} {pk pv : aJ} {pos : Pos} (hu : X.A.units + 64 < cLine) (hk : QE Γ X k pk) (hv : QE Γ X v pv) : QE Γ X (.Dict [some k] [v] pos) (zDisp1T pk pv) :=
  (y9 (by omega) hk hv).imp fun σ H Q ⟨β, ρ, M, Q', zr, h, q⟩ p hp => by
    have z1 := zr.enter hp (o := .dT []) rfl
    refine ⟨β.add p, ρ, M, _, z1, h, fun e M1 y H1 x1 r1 h1 => ⟨β.add p, ρ, M1, _, z1.step x1, h1, fun d M2 w H2 x2 r2 h2 => ?_⟩⟩
    have dO := x1.trans x2
    have KP : M p = none := zr.mz.free hp
    have e2 : H2 p = some (.dT []) := dO.y8 List.mem_cons_self KP aM rfl
    have KQ : M2 p = none := dO.new p _ KP aM
    refine ⟨e2, ?_⟩
    split at h2
    · split at h2
      · rename_i es kk NQ
        obtain ⟨b, us, rfl, _, hb, ru⟩ := bX (r1.ex x2)
        rw [gW ru NQ] at hb
        refine ⟨b, kk, rfl, hb, ?_⟩
        refine q _ _ _ _ (Ea (o' := .dt [kk] [d]) (u := .dT ([kk].zip [w])) hp dO (dO.mz.Hg KQ (zr.mz.fz hp).2 (zr.mz.A8 hp) rfl ⟨[w], aM, rfl, jg (.cons r2 .nil)⟩)) (.ptr (by rw [updM_same]; rfl)) (h2 p KQ)
      · exact h2.elim
    · exact h2.elim
noncomputable def zDPut (pd pk pv : aJ) : cp := fun D ρ M => pv ρ M fun v M1 => pd ρ M1 fun d M2 => pk ρ M2 fun e M3 => match d with
  | .ptr a => (match M3 a with
    | some (.dk ks ds) => (match keyD e with | some k => ks.length < sizeLine ∧ D.nx ρ (av M3 a (.dk (putL ks k) (cR ks ds k v))) | none => False)
    | some (.dt ks ds) => (match e with | .tup es => (match eU es with | some k => ks.length < sizeLine ∧ D.nx ρ (av M3 a (.dt (putL ks k) (cR ks ds k v))) | none => False) | _ => False)
    | _ => False)
  | _ => False
theorem Eb {o i value : Expr} {pd pk pv : aJ} {pos pos' : Pos} (hu : X.A.units + 64 < cLine) (ho : QE Γ X o pd) (hi : QE Γ X i pk) (hv : QE Γ X value pv) (hs : swapsWith value (some (.Subscript o i pos')) pos.line X.env = pure false := by rfl) :
    QS Γ X (.Assign [.Subscript o i pos'] value pos) (zDPut pd pk pv) := (DU (by omega) ho hi hv hs).imp fun D σ H ⟨β, ρ, M, D', zr, h, r⟩ => ⟨β, ρ, M, _, zr, h, fun v M1 vv H1 x1 r1 h1 => ⟨β, ρ, M1, _, zr.step x1, h1, fun d M2 dv H2 x2 r2 h2 =>
      ⟨β, ρ, M2, _, (zr.step x1).step x2, h2, fun e M3 ev H3 x3 r3 h3 => by
  have z3 := ((zr.step x1).step x2).step x3
  have i7 := x1.trans (x2.trans x3)
  have rv := (r1.ex x2).ex x3
  split at h3
  · rename_i a
    obtain ⟨rfl, hs⟩ := bD r2
    split at h3
    · rename_i ks ds hM
      obtain ⟨vs, ha, hk, rs⟩ := x3.mz.obj a _ hM
      split at h3
      · rename_i k oT
        obtain ⟨hl, h3⟩ := h3
        have hp : (M3 a).isSome = true := by rw [hM]; rfl
        have x4 : Ex β M3 H3 (av M3 a (.dk (putL ks k) (cR ks ds k v))) (upd H3 a (.dK ((putL ks k).zip (cR ks vs k vv)))) := Ex.Mg x3.mz (.inl hp) (kM hk k vv) (jf k rv rs)
        refine ⟨a, _, rfl, .inl ⟨_, k, ha, pX r3 oT, by rw [List.length_zip, ← hk, Nat.min_self]; exact hl, rfl⟩, ?_⟩
        rw [mQ hk]
        exact r.nx _ _ _ _ (i7.trans x4).ev (z3.step x4) h3
      · exact h3.elim
    · rename_i ks ds hM
      obtain ⟨vs, ha, hk, rs⟩ := x3.mz.obj a _ hM
      split at h3
      · split at h3
        · rename_i k oT
          obtain ⟨hl, h3⟩ := h3
          obtain ⟨b, us, rfl, _, hb, ru⟩ := bX r3
          rw [gW ru oT] at hb
          have hp : (M3 a).isSome = true := by rw [hM]; rfl
          have x4 : Ex β M3 H3 (av M3 a (.dt (putL ks k) (cR ks ds k v))) (upd H3 a (.dT ((putL ks k).zip (cR ks vs k vv)))) := Ex.A7 x3.mz (.inl hp) (kM hk k vv) (jf k rv rs)
          refine ⟨a, _, rfl, .inr ⟨_, k, b, ha, rfl, hb, by rw [List.length_zip, ← hk, Nat.min_self]; exact hl, rfl⟩, ?_⟩
          rw [mQ hk]
          exact r.nx _ _ _ _ (i7.trans x4).ev (z3.step x4) h3
        · exact h3.elim
      · exact h3.elim
    · exact h3.elim
  · exact h3.elim⟩⟩⟩
end
theorem zb {P : Program} {w : World} {K : PySem.W.Frag} {mg mb : Str → Option Value} {CX : js} {k : Nat} {fa a : Addr} {fd : FuncData} {x : Str} {sp : Sp} {aE : Shared} {vs : List Value} {ns : List Int} {tabs lts : List Addr}
    (KX : K.In aE.heap) (oA : aE.heap.Ns mainGlobals mg) (hb : aE.heap.Ns builtinsNs mb) (NR : ∀ x : Str, x ≠ "__name__" → mb x = bootBuiltins x) (Hh : aE.heap.NoLimit) (hg : aE.gens = #[])
    (ha : aE.heap.get? a = some { cls := .type "list", data := .seq vs.toArray }) (hi : IntsAre vs ns) (hl : ns.length ≤ sizeLine) (hr : cF k callerA)
    (pZ : ∀ p ∈ tabs ++ lts, aE.heap.get? p = some (PySem.W.tabObj #[]) ∧ isCodeTable aE.heap p) (Mm : ∀ p ∈ tabs, p ∉ lts) (zf : PySem.W.kb_classed K = true) (jw : ∃ bm ob, BMod aE.heap mainGlobals mg bm ob)
    (F : ∀ base : Heap, K.In base → base.Ns mainGlobals mg → (∃ bm ob, BMod base mainGlobals mg bm ob) → (∀ c p, PySem.W.CodeHd aE.heap c p → PySem.W.CodeHd base c p) → FnOk P w K mg base CX k fa fd [x] sp)
    (JG : ∀ (s : Shared) (u : Value), BindsTo s fd ⟨[u], []⟩ [(x, u)])
    (m6 : ∀ H : Hp, (∀ p ∈ tabs, Tb p H) → (∀ p ∈ lts, H p = some (.lam #[])) → bH K H a (ns.map V.int) → sp [.ref a] H (fun v H' => v = .bl true ∧ ∀ p ∈ lts, ∃ ps, H' p = some (.lam ps)) fun _ _ _ => False)
    (Hi : ∀ H e s', CX [] H aE (fun _ _ _ => False) e s' → False) :
    codeAny (model P w) callerA (.call (.ref fa) ⟨[.ref a], []⟩) (fun r s' => r = .ok (.ret (.bool true)) ∧ OldK aE.heap s'.heap ∧ s'.os = aE.os ∧ AllBare s'.gens) aE := by
  have rv := qF hi
  have Mp := hi.length
  have i5 : a ∉ tabs ++ lts := fun z => by
    have e := (pZ a z).1
    rw [ha] at e
    cases e
  have core : ∀ H : Hp, (∀ b u, H b = some u → (b = a ∧ ∃ o xs, u = .fm o (.lst xs)) ∨ (b ∈ tabs ++ lts ∧ (u = .cE #[] ∧ b ∈ tabs ∨ u = .lam #[] ∧ b ∈ lts))) → (∀ p ∈ tabs, H p = some (.cE #[])) → (∀ p ∈ lts, H p = some (.lam #[])) → bH K H a (ns.map V.int) → cw P w H aE.heap → (H a ≠ none → K.lookup a = none) →
      codeAny (model P w) callerA (.call (.ref fa) ⟨[.ref a], []⟩) (fun r s' => r = .ok (.ret (.bool true)) ∧ OldK aE.heap s'.heap ∧ s'.os = aE.os ∧ AllBare s'.gens) aE := by
    intro H hO NS NT hS hok hK
    have mR : ∀ {b : Addr} {o : Obj}, aE.heap.get? b = some o → H b = none → (iU aE.heap H).get? b = some o := fun e n => Af e n
    have no : ∀ {b : Addr} {o : Obj}, aE.heap.get? b = some o → (∀ n, o.data ≠ .seq vs.toArray n) → o ≠ PySem.W.tabObj #[] → H b = none := fun {b o} e d1 d2 => by
      cases q : H b with
      | none => rfl
      | some u =>
        rcases hO b u q with ⟨e', _⟩ | ⟨jB, _⟩
        · subst e'
          rw [ha] at e; cases e
          exact absurd rfl (d1 _)
        · rw [(pZ b jB).1] at e
          exact absurd (Option.some.inj e).symm d2
    have NU : ∀ {b : Addr} {o : Obj} {es : Array DictEntry} {ep : Nat}, aE.heap.get? b = some o → o.data = .dict es ep → H b = none := fun {b o es ep} e d => no e (fun n z => by rw [d] at z; cases z) fun z => by rw [z] at d; cases d
    have zh : ∀ {b : Addr} {m : Str → Option Value}, aE.heap.Ns b m → (iU aE.heap H).Ns b m := fun {b m} hS => by obtain ⟨o, es, ep, e, d, r⟩ := hS; exact ⟨o, es, ep, mR e (NU e d), d, r⟩
    have KR : K.In (iU aE.heap H) := fun b o e => mR (KX b o e) (by
      cases q : H b with
      | none => rfl
      | some u =>
        rcases hO b u q with ⟨e', _⟩ | ⟨jB, _⟩
        · subst e'
          rw [hK (by rw [q]; simp)] at e; cases e
        · have e1 := KX b o e
          have e2 := (pZ b jB).1
          rw [e1] at e2
          have e3 : o = PySem.W.tabObj #[] := Option.some.inj e2
          have q2 := List.all_eq_true.mp zf (b, o) (PySem.W.kb_mem e)
          simp only [Bool.or_eq_true, decide_eq_true_eq, beq_iff_eq] at q2
          rcases q2 with (q2 | q2) | q2
          · rw [e3] at q2; exact absurd rfl q2
          · obtain ⟨mc, ⟨oc, es, ep, ho, hd, _⟩, _⟩ := Hh
            rw [← q2, e1] at ho
            cases ho
            rw [e3] at hd; cases hd
          · obtain ⟨oc, es, ep, ho, hd, _⟩ := id oA
            rw [← q2, e1] at ho
            cases ho
            rw [e3] at hd; cases hd)
    have hM : Mod K mg (iU aE.heap H) := ⟨KR, zh oA, ⟨mb, zh hb, NR⟩, let ⟨mc, h1, h2⟩ := Hh; ⟨mc, zh h1, h2⟩⟩
    have hB : ∃ bm ob, BMod (iU aE.heap H) mainGlobals mg bm ob := by
      obtain ⟨bm, ob, B⟩ := jw
      exact ⟨bm, ob, zh B.ns, B.name, B.ne, mR B.obj (no B.obj (fun n z => by rw [B.data] at z; cases z) fun z => by have := B.data; rw [z] at this; cases this), B.cls, B.dict, B.data⟩
    have hC : ∀ c p, PySem.W.CodeHd aE.heap c p → PySem.W.CodeHd (iU aE.heap H) c p := fun c p ⟨o, yH, file, tf, flags, tg, NV, text, tt, e1, e2, e3, r⟩ =>
      ⟨o, yH, file, tf, flags, tg, NV, text, tt, mR e1 (no e1 (fun n z => by rw [e3] at z; cases z) fun z => by rw [z] at e2; cases e2), e2, e3, r⟩
    have e0 : v7 P w K mg (iU aE.heap H) callerA [] aE H := ⟨rfl, hM, fun b o e => Di e, Nat.le_of_eq (xu _ _), trivial, fun b hb => absurd (show b ∈ ([] : List Addr) from hb) (by simp), hok, .of_eq hg⟩
    refine codeAny_mono ((F _ KR (zh oA) hB hC).run callerA [] aE H ⟨[.ref a], []⟩ [.ref a] [.ref a] _ _ hr e0 (JG aE (.ref a)) (.cons rfl .nil) (m6 H (fun p hp => ⟨#[], NS p hp, trivial⟩) NT hS)) fun r s' h => ?_
    cases r with
    | error e => exact (Hi H e s' h).elim
    | ok fl =>
      cases fl with
      | next => exact False.elim h
      | brk => exact False.elim h
      | cont => exact False.elim h
      | ret u =>
        obtain ⟨v, H', os, bare, un, Bn, r', q⟩ := h
        obtain ⟨q', qL⟩ := q
        subst q'
        obtain rfl : u = Value.bool true := r'
        have all : ∀ b o, aE.heap.get? b = some o → asItWas aE.heap s'.heap b o ∧ ∃ o', s'.heap.get? b = some o' := fun b o e => by
          cases q : H b with
          | none =>
            have := un.keep b o e q (by intro z; exact absurd (show b ∈ ([] : List Addr) from z) (by simp)) (by simp)
            exact ⟨.inl this, _, this⟩
          | some u =>
            rcases hO b u q with ⟨_, ob, xs, z⟩ | ⟨jB, z⟩
            · subst z
              have z2 := un.frzs b ob _ q
              obtain ⟨e1, _⟩ := hok b _ q
              obtain ⟨e2, _⟩ := Bn b _ z2
              rw [e] at e1; cases e1
              exact ⟨.inl e2, _, e2⟩
            · have e2 : ∃ more, s'.heap.get? b = some { cls := .none, data := .fields (#[] ++ more) } := by
                rcases z with ⟨z, _⟩ | ⟨z, NW⟩
                · subst z
                  obtain ⟨more, z2⟩ := un.tbls b #[] q
                  exact ⟨more, Bn b _ z2⟩
                · obtain ⟨ps, z2⟩ := qL b NW
                  refine ⟨ps, ?_⟩
                  have := Bn b _ z2
                  rw [show (#[] : Array Value) ++ ps = ps by simp]
                  exact this
              obtain ⟨more, e2⟩ := e2
              have e1 := (pZ b jB).1
              rw [e] at e1
              obtain rfl : o = PySem.W.tabObj #[] := Option.some.inj e1
              exact ⟨.inr (.inl ⟨(pZ b jB).2, rfl, #[], more, rfl, e2⟩), _, e2⟩
        exact ⟨rfl, ⟨fun b o e => (all b o e).1, fun b o e => (all b o e).2⟩, os, bare.1⟩
  have Hj : ∀ p ∈ tabs ++ lts, ∀ H : Hp, ∀ u, (u = .cE #[] ∧ p ∈ tabs ∨ u = .lam #[] ∧ p ∈ lts) → ObjOk P w H aE.heap p u := fun p hp H u hu => by
    rcases hu with ⟨rfl, _⟩ | ⟨rfl, _⟩ <;> exact (pZ p hp).1
  let T : Hp := fun b => if b ∈ lts then some (.lam #[]) else if b ∈ tabs then some (.cE #[]) else none
  have T1 : ∀ b u, T b = some u → b ∈ tabs ++ lts ∧ (u = .cE #[] ∧ b ∈ tabs ∨ u = .lam #[] ∧ b ∈ lts) := fun b u z => by
    by_cases h1 : b ∈ lts
    · have z' := (show T b = _ from if_pos h1).symm.trans z
      cases z'
      exact ⟨List.mem_append_right _ h1, .inr ⟨rfl, h1⟩⟩
    · by_cases h2 : b ∈ tabs
      · have z' := (show T b = _ from (if_neg h1).trans (if_pos h2)).symm.trans z
        cases z'
        exact ⟨List.mem_append_left _ h2, .inl ⟨rfl, h2⟩⟩
      · have z' := (show T b = _ from (if_neg h1).trans (if_neg h2)).symm.trans z
        cases z'
  have T2 : ∀ p ∈ tabs, T p = some (.cE #[]) := fun p hp => (if_neg (Mm p hp)).trans (if_pos hp)
  have T3 : ∀ p ∈ lts, T p = some (.lam #[]) := fun p hp => if_pos hp
  have Ta : T a = none := (if_neg fun z => i5 (List.mem_append_right _ z)).trans (if_neg fun z => i5 (List.mem_append_left _ z))
  cases hk : K.lookup a with
  | some o =>
    have e := KX a o hk
    rw [ha] at e
    cases e
    exact core T (fun b u z => .inr (T1 b u z)) T2 T3 (.inr ⟨_, vs.toArray, _, hk, rfl, rfl, rfl, by rw [List.size_toArray, Mp]; exact hl, by simpa using rv⟩) (fun b u z => Hj b (T1 b u z).1 _ u (T1 b u z).2) fun z => absurd Ta z
  | none =>
    have na : ∀ p ∈ tabs ++ lts, p ≠ a := fun p hp z => i5 (z ▸ hp)
    refine core (upd T a (.fm { cls := .type "list", data := .seq vs.toArray } (.lst (ns.map V.int)))) (fun b u z => ?_) (fun p hp => by rw [ai (na p (List.mem_append_left _ hp))]; exact T2 p hp) (fun p hp => by rw [ai (na p (List.mem_append_right _ hp))]; exact T3 p hp) (.inl (.inr ⟨_, aM⟩)) (fun b u z => ?_) fun _ => hk
    · by_cases hb : b = a
      · subst hb
        rw [aM] at z
        cases z
        exact .inl ⟨rfl, _, _, rfl⟩
      · rw [ai hb] at z
        exact .inr (T1 b u z)
    · by_cases hb : b = a
      · subst hb
        rw [aM] at z
        cases z
        exact ⟨ha, by rw [List.length_map]; exact hl, vs, _, rv, ha⟩
      · rw [ai hb] at z
        exact Hj b (T1 b u z).1 _ u (T1 b u z).2
noncomputable def rS (K : PySem.W.Frag) (x : Str) : Option Addr := match PySem.W.nsIn K mainGlobals x with
  | some (some (.ref f)) => (match K.lookup f with
    | some ⟨_, _, .func fd, _⟩ => (match fd.code with
      | .ref c => (match K.lookup c with
        | some ⟨_, _, .fields vs, _⟩ => (match vs[11]? with | some (Value.ref p) => some p | _ => none)
        | _ => none)
      | _ => none)
    | _ => none)
  | _ => none
noncomputable abbrev TabOf (mg : Str → Option Value) (h : Heap) (y : Str) (p : Addr) : Prop := ∃ f o fd c, mg y = some (.ref f) ∧ h.get? f = some o ∧ o.data = .func fd ∧ fd.code = .ref c ∧ PySem.W.CodeHd h c p
theorem tK {K : PySem.W.Frag} {mg : Str → Option Value} {h : Heap} {y : Str} {p q : Addr} (X : K.In h) (G : h.Ns mainGlobals mg) (t : TabOf mg h y p) (e : rS K y = some q) : p = q := by
  obtain ⟨f, o, fd, c, e1, e2, e3, e4, oc, vs, _, _, _, _, _, _, _, g1, _, g3, g4, _⟩ := t
  unfold rS at e
  split at e
  · rename_i f' oA
    have := (PySem.W.mg_of X G oA).symm.trans e1
    cases this
    split at e
    · rename_i OW OX M7 Kd tL
      have := (X _ _ tL).symm.trans e2
      cases this
      cases e3
      rw [e4] at e
      dsimp only at e
      split at e
      · rename_i a1 a2 yH a3 NX
        have := (X _ _ NX).symm.trans g1
        cases this
        cases g3
        rw [g4] at e
        cases e
        rfl
      · cases e
    · cases e
  · cases e
noncomputable def p0 (K : PySem.W.Frag) (gs ls : List Str) : Bool := gs.all fun x => ls.all fun y => match rS K x, rS K y with | some p, some q => decide (p ≠ q) | _, _ => false
theorem vF {α β : Type} {F : α → β → Prop} {l : List α} {m : List β} (h : Paired F l m) {b : β} (hb : b ∈ m) : ∃ a ∈ l, F a b := by
  induction h with
  | nil => simp at hb
  | cons x t ih =>
    rcases List.mem_cons.mp hb with e | e
    · subst e; exact ⟨_, List.mem_cons_self, x⟩
    · obtain ⟨a, ha, q⟩ := ih e
      exact ⟨a, List.mem_cons_of_mem _ ha, q⟩
theorem Bo {K : PySem.W.Frag} {mg : Str → Option Value} {h : Heap} {gs ls : List Str} {tabs lts : List Addr} (X : K.In h) (G : h.Ns mainGlobals mg) (d : p0 K gs ls = true) (t1 : Paired (TabOf mg h) gs tabs) (t2 : Paired (TabOf mg h) ls lts) : ∀ p ∈ tabs, p ∉ lts := fun p hp hq => by
  obtain ⟨x, hx, tx⟩ := vF t1 hp
  obtain ⟨y, hy, ty⟩ := vF t2 hq
  have := List.all_eq_true.mp (List.all_eq_true.mp d x hx) y hy
  split at this
  · rename_i p' q' e1 e2
    have a := tK X G tx e1
    have b := tK X G ty e2
    exact (of_decide_eq_true this) (a.symm.trans b)
  · cases this
theorem Bp {l : PySem.W.OpenLaw} {n k : Nat} {q : Program} {loose : List Str} {XP : (Str → Option Value) → Heap → Prop} {YP : World → Heap → Prop} {d : DefRec} {K : Params → PySem.W.Frag} {CX : js} {sp : PySem.W.Frag → List Addr → List Addr → Sp} {x : Str} {k8 zj : List Str}
    (hn : l.most = some n) (NY : n ≤ sizeLine) (xY : d.params.defaults = []) (hr : cF k callerA) (zf : ∀ w : World, PySem.W.kb_classed (K w.params) = true)
    (CN : ∀ y ∈ k8 ++ zj, ∃ r ∈ recsOf q, r.name = y) (Hk : ∀ w : World, p0 (K w.params) k8 zj = true)
    (hY : ∀ (w : World) (h : Heap), YP w h → (K w.params).In h)
    (F : ∀ (w : World) (mg : Str → Option Value) (fa : Addr) (h : Heap) (tabs lts : List Addr), (K w.params).In h → h.Ns mainGlobals mg → mg d.name = some (.ref fa) →
      Paired (TabOf mg h) k8 tabs → Paired (TabOf mg h) zj lts →
      ∃ fd : FuncData, (∀ (s : Shared) (u : Value), BindsTo s fd ⟨[u], []⟩ [(x, u)]) ∧
        ∀ base : Heap, (K w.params).In base → base.Ns mainGlobals mg → (∃ bm ob, BMod base mainGlobals mg bm ob) → (∀ c p, PySem.W.CodeHd h c p → PySem.W.CodeHd base c p) → FnOk l.prog w (K w.params) mg base CX k fa fd [x] (sp (K w.params) tabs lts))
    (m6 : ∀ (K : PySem.W.Frag) (tabs lts : List Addr) (H : Hp) (a : Addr) (ns : List Int), lts.length = zj.length → ns.length ≤ n → (∀ p ∈ tabs, Tb p H) → (∀ p ∈ lts, H p = some (.lam #[])) → bH K H a (ns.map V.int) → sp K tabs lts [.ref a] H (fun v H' => v = .bl true ∧ ∀ p ∈ lts, ∃ ps, H' p = some (.lam ps)) fun _ _ _ => False)
    (Hi : ∀ (H : Hp) (s : Shared) (e : Value) (s' : Shared), CX [] H s (fun _ _ _ => False) e s' → False) :
    PySem.W.WalkO q loose XP YP l.row.toRowW d [] (fun f vs => PySem.call f vs) := by
  refine Ko.uL hn xY fun w s₀ aE mg mb fa o pm cd doc a vs ns G Y ho hd gd xZ AB hints hlen hg => ?_
  have KX := hY w _ Y
  have tb : ∀ k8 : List Str, (∀ y ∈ k8, ∃ r ∈ recsOf q, r.name = y) → ∃ tabs, Paired (TabOf mg aE.heap) k8 tabs ∧ ∀ p ∈ tabs, aE.heap.get? p = some (PySem.W.tabObj #[]) ∧ isCodeTable aE.heap p := by
    intro k8
    induction k8 with
    | nil => intro _; exact ⟨[], .nil, fun p hp => absurd hp (by simp)⟩
    | cons y r ih =>
      intro hm
      obtain ⟨tabs, h1, h2⟩ := ih fun z hz => hm z (List.mem_cons_of_mem _ hz)
      obtain ⟨rr, NZ, e⟩ := hm y List.mem_cons_self
      obtain ⟨f, o', fd, c, p, a1, a2, a3, a4, a5, a6⟩ := G.T.tab rr NZ
      rw [e] at a1
      refine ⟨p :: tabs, .cons ⟨f, o', fd, c, a1, a2, a3, a4, .of a5 a6⟩ h1, fun z hz => ?_⟩
      rcases List.mem_cons.mp hz with rfl | hz
      · exact ⟨a6.2, a6.isCodeTable⟩
      · exact h2 z hz
  obtain ⟨tabs, t1, t2⟩ := tb k8 fun y hy => CN y (List.mem_append_left _ hy)
  obtain ⟨lts, u1, u2⟩ := tb zj fun y hy => CN y (List.mem_append_right _ hy)
  obtain ⟨fd, hb, hF⟩ := F w mg fa _ tabs lts KX G.T.g xZ t1 u1
  exact zb (lts := lts) KX G.T.g G.T.b G.T.builtins G.T.nolimit hg AB hints (Nat.le_trans hlen NY) hr (fun p hp => (List.mem_append.mp hp).elim (t2 p) (u2 p)) (Bo KX G.T.g (Hk w) t1 u1) (zf w) (PySem.W.bmod_of_top G.T) hF hb (fun H hO hL hS => m6 _ tabs lts H a ns (Paired.length u1).symm hlen hO hL hS) fun H e s' => Hi H aE e s'
theorem Bq {K : PySem.W.Frag} {tabs lts : List Addr} {qs : List Str} {H : Hp} {a : Addr} {ns : List Int} (hl : lts.length = qs.length) (hn : ns.length ≤ 63) (hT : ∀ p ∈ tabs, Tb p H) (hL : ∀ p ∈ lts, H p = some (.lam #[])) (hS : bH K H a (ns.map V.int)) :
    spLaw K ⟨tabs, lts.zip qs⟩ [.ref a] H (fun v H' => v = .bl true ∧ ∀ p ∈ lts, ∃ ps, H' p = some (.lam ps)) fun _ _ _ => False :=
  ⟨a, ns, rfl, hS, hn, hT, fun p hp => ⟨#[], hL p.1 (List.of_mem_zip hp).1, trivial, fun pos cv e => nomatch e⟩, fun H' h => ⟨rfl, fun p hp => by
    obtain ⟨i, hi⟩ := List.mem_iff_getElem?.mp hp
    have h1 := (List.getElem?_eq_some_iff.mp hi).1
    exact h (p, qs[i]) (List.mem_of_getElem? (i := i) (List.getElem?_zip_eq_some.mpr ⟨hi, List.getElem?_eq_getElem (by omega)⟩))⟩⟩
theorem q9 {α β : Type} {F : α → β → Prop} : ∀ {l : List α} {m : List β} {i : Nat} {a : α}, Paired F l m → l[i]? = some a → ∃ b, m[i]? = some b ∧ F a b
  | _, _, _, _, .nil, h => by simp at h
  | _, _, 0, _, .cons x _, h => by simp at h; subst h; exact ⟨_, rfl, x⟩
  | _, _, i + 1, _, .cons _ t, h => by obtain ⟨b, e, q⟩ := q9 (i := i) t (by simpa using h); exact ⟨b, by simpa using e, q⟩
section
variable {Γ : Gz} {X : Cx} {K : PySem.W.Frag}
noncomputable def zCatLP : eh := fun d e M Q => match d, e with | .lst ds, .lst es => ds.length + es.length ≤ sizeLine ∧ ∀ a, M a = none → Q (.ptr a) (av M a (.lst (ds ++ es))) | _, _ => False
theorem Ec (hK : X.K = K) : eR Γ X (binaryOp .Add) zCatLP := ⟨_, Ga, fun β x y d e M H Q Q' _ _ _ m rx ry z q => by
  unfold zCatLP at z
  split at z
  · obtain ⟨a, vs, rfl, f, ha, rs⟩ := cT rx
    obtain ⟨b, us, rfl, f2, hb, cf⟩ := cT ry
    refine ⟨a, b, vs, us, rfl, rfl, ha, hb, by rw [rs.len, cf.len]; exact z.1, fun p hp => ?_⟩
    have x2 := Ex.own m (.inr hp) (rs.append cf)
    exact q _ _ _ _ x2 (.ptr (by rw [updM_same]; rfl)) (z.2 p (m.free hp))
  · exact z.elim⟩
noncomputable def zClear : ll := fun d ds M Q => match d, ds with | .ptr a, [] => (match M a with | some (.lst _) => Q .au (av M a (.lst [])) | _ => False) | _, _ => False
theorem Ed : nu Γ X "list" "list.clear" K zClear := ⟨_, AA, fun β x xs d ds M H Q Q' _ _ _ m r rs z q => by
  unfold zClear at z
  split at z
  · rename_i a
    split at z
    · rename_i ys ha
      obtain ⟨rfl, h⟩ := bD r
      obtain ⟨vs, hv, cf⟩ := m.obj a _ ha
      have e := rs.len
      have e0 : xs = [] := List.eq_nil_of_length_eq_zero e
      subst e0
      refine ⟨a, vs, rfl, rfl, hv, ?_⟩
      exact q _ _ _ _ (Ex.own m (.inl h) .nil) .au z
    · exact z.elim
  · exact z.elim⟩
end
theorem fP {g : bL} {te : aJ} (J : List Dv → aA → Mh → Prop) : ∀ {ds acc : List Dv} {τ : aA} {M : Mh} {Q : List Dv → Mh → Prop}, J acc τ M →
    (∀ i d fN τ M, ds[i]? = some d → fN.length = acc.length + i → J fN τ M → ∀ R : aA → ZK, (∀ y ay M2, J (fN ++ [y]) ay M2 → R ay y M2) → g d τ M fun ay M2 => te ay M2 (R ay)) →
    (∀ ys τ M, ys.length = ds.length → J (acc ++ ys) τ M → Q ys M) → fO g zNoIf te ds τ M Q
  | [], acc, τ, M, Q, j, _, q => q [] τ M rfl (by rw [List.append_nil]; exact j)
  | d :: ds, acc, τ, M, Q, j, h, q => by
    refine h 0 d acc τ M rfl rfl j (fun ay y M4 => fO g zNoIf te ds ay M4 fun ys M5 => Q (y :: ys) M5) fun y ay M2 j2 => ?_
    refine fP J (acc := acc ++ [y]) j2 (fun i d' fN aR M' e1 e2 j' R hR => ?_) fun ys lj M3 e3 j3 => ?_
    · exact h (i + 1) d' fN aR M' e1 (by rw [e2, List.length_append]; simp; omega) j' R hR
    · exact q (y :: ys) lj M3 (by simp [e3]) (by rw [List.append_assoc] at j3; exact j3)
section
variable {X : Cx} {Γ : Gz} {tg elt iter : Expr} {ifs : List Expr} {scope : Scope} {pos : Pos} {N' : List Str} {tn : Nat} {idx : List Nat}
theorem tM {zi : cO} {g : bL} {tt : bS} {te : aJ} {i : Nat} {y : Str} {py dR : Pos} (hN : X.N.Nodup) (c9 : X.N[i]? = some y) (hy : X.env.scope.names.lookup y = some .local) (hc : X.calm = true) (B : dG X.N X.env.scope scope N' tn idx) (hi : QI Γ X tg iter zi)
    (hg : kJ X N' scope fun Y => QG Γ Y tg g) (ht : kJ X N' scope fun Y => lh Γ Y ifs tt) (he : kJ X N' scope fun Y => QE Γ Y elt te)
    (jW : swapsWith (.ListComp elt [⟨tg, iter, ifs, 0⟩] scope pos) (some (.Name y py)) dR.line X.env = pure true := by rfl)
    (hs : ∀ x, foldedSetIterable iter X.env x = pure x := by intro _; rfl) : QS Γ X (.Assign [.Name y py] (.ListComp elt [⟨tg, iter, ifs, 0⟩] scope pos) dR) (zAsg (zCompP tn idx zi g tt te) (zgName i)) := (uP hN c9 hy hc B hi hg ht he jW hs).imp fun D σ H h => oK (fun _ _ _ h => pS h) h
end
theorem oU {a1 r : cp} {D : gv} {ρ : aA} {M : Mh} (I : aA → Mh → Prop) (h1 : ∀ N : aA → Mh → Prop, (∀ ρ M, I ρ M → N ρ M) → a1 { D with nx := N } ρ M) (h2 : ∀ ρ M, I ρ M → r D ρ M) : (zSeq a1 r) D ρ M := h1 _ h2
theorem JH {a1 a2 r : cp} {D : gv} {ρ : aA} {M : Mh} (I : aA → Mh → Prop) (h1 : ∀ N : aA → Mh → Prop, (∀ ρ M, I ρ M → N ρ M) → (zSeq a1 a2) { D with nx := N } ρ M) (h2 : ∀ ρ M, I ρ M → r D ρ M) : (zSeq a1 (zSeq a2 r)) D ρ M := h1 _ h2
theorem JI {a1 a2 a3 a4 r : cp} {D : gv} {ρ : aA} {M : Mh} (I : aA → Mh → Prop) (h1 : ∀ N : aA → Mh → Prop, (∀ ρ M, I ρ M → N ρ M) → (zSeq a1 (zSeq a2 (zSeq a3 a4))) { D with nx := N } ρ M) (h2 : ∀ ρ M, I ρ M → r D ρ M) : (zSeq a1 (zSeq a2 (zSeq a3 (zSeq a4 r)))) D ρ M := h1 _ h2
theorem JK {a1 a2 a3 a4 a5 a6 a7 a8 r : cp} {D : gv} {ρ : aA} {M : Mh} (I : aA → Mh → Prop) (h1 : ∀ N : aA → Mh → Prop, (∀ ρ M, I ρ M → N ρ M) → (zSeq a1 (zSeq a2 (zSeq a3 (zSeq a4 (zSeq a5 (zSeq a6 (zSeq a7 a8))))))) { D with nx := N } ρ M) (h2 : ∀ ρ M, I ρ M → r D ρ M) : (zSeq a1 (zSeq a2 (zSeq a3 (zSeq a4 (zSeq a5 (zSeq a6 (zSeq a7 (zSeq a8 r)))))))) D ρ M := h1 _ h2
section
variable {β : Bz} {M M' : Mh} {H H' : Hp} {a : Addr} {o o' o2 nB : Mo}
theorem Rz.dom (hd : ∀ a, (M a).isSome = (M' a).isSome) {v : V} {d : Dv} (r : Rz β M H v d) : Rz β M' H v d :=
  r.mP (M0 := M') (fun a h => by rw [hd a]; exact h) (r.pin.mono fun a h => by rw [← hd a]; exact h)
theorem ip.dom (hd : ∀ a, (M a).isSome = (M' a).isSome) (h : ip β M H a o) : ip β M' H a o := by
  cases o with
  | lst ds => obtain ⟨vs, h1, rs⟩ := h; exact ⟨vs, h1, rs.len, fun i v d x y => (rs.at' i v d x y).dom hd⟩
  | cH => exact h
  | dk ks ds => obtain ⟨vs, h1, h2, rs⟩ := h; exact ⟨vs, h1, h2, rs.len, fun i v d x y => (rs.at' i v d x y).dom hd⟩
  | dt ks ds => obtain ⟨vs, h1, h2, rs⟩ := h; exact ⟨vs, h1, h2, rs.len, fun i v d x y => (rs.at' i v d x y).dom hd⟩
theorem iS (M : Mh) (a : Addr) (o o2 : Mo) (b : Addr) : (av M a o b).isSome = (av M a o2 b).isSome := by
  by_cases e : b = a
  · subst e; rw [updM_same, updM_same]; rfl
  · rw [ao e, ao e]
theorem jE {b : Addr} (o2 : Mo) (h : av M a o b = none) : av M a o2 b = none := by
  by_cases e : b = a
  · subst e; rw [updM_same] at h; cases h
  · rw [ao e] at h ⊢; exact h
theorem Mz.chg (m : Mz β (av M a o) H) (h2 : ip β (av M a o2) H a o2) : Mz β (av M a o2) H := by
  refine ⟨fun b u e => ?_, m.tabs, m.hids, fun b u e => ?_, m.lams⟩
  · by_cases z : b = a
    · subst z; rw [updM_same] at e; cases e; exact h2
    · rw [ao z] at e
      exact ip.dom (iS M a o o2) (m.obj b u (by rw [ao z]; exact e))
  · by_cases z : b = a
    · subst z; exact m.apart b o updM_same
    · rw [ao z] at e
      exact m.apart b u (by rw [ao z]; exact e)
theorem vG (h : M a = some o) : av M a o = M := by
  funext b
  by_cases e : b = a
  · subst e; rw [updM_same, h]
  · rw [ao e]
theorem Ex.chg (x : Ex β (av M a o) H (av M a o') H') (h2 : ip β (av M a nB) H' a nB) : Ex β (av M a o2) H (av M a nB) H' :=
  ⟨⟨fun b u h e => x.keep b u (jE o h) e, fun b h => by rw [iS M a nB o']; exact x.dom b (by rw [iS M a o o2]; exact h), fun b u h e => jE nB (x.new b u (jE o h) e)⟩, x.mz.chg h2⟩
theorem Ex.sealed (hn : M a = none) (x : Ex β M H (av M a o') H') (h2 : ip β (av M a nB) H' a nB) : Ex β M H (av M a nB) H' :=
  ⟨⟨x.keep, fun b h => by rw [iS M a nB o']; exact x.dom b h, fun b u h e => jE nB (x.new b u h e)⟩, x.mz.chg h2⟩
theorem zk {c m : Int} (z : Mz β (av M a (.lst [.int c, .int m])) H) (hc : 0 ≤ c) (hm : 0 ≤ m) : ip β (av M a .cH) H a .cH := by
  obtain ⟨vs, h, rs⟩ := z.obj a _ updM_same
  refine ⟨c, m, ?_, hc, hm⟩
  have := nQ (ns := [c, m]) rs
  rw [h, this]
  rfl
theorem Hl (z : Mz β (av M a .cH) H) : ∃ c m : Int, 0 ≤ c ∧ 0 ≤ m ∧ ip β (av M a (.lst [.int c, .int m])) H a (.lst [.int c, .int m]) := by
  obtain ⟨c, m, h, hc, hm⟩ := z.obj a _ updM_same
  exact ⟨c, m, hc, hm, _, h, tE (ns := [c, m])⟩
end
section
variable {X : Cx} {Γ : Gz} {K : PySem.W.Frag}
noncomputable def zIxS : eh := fun d e M Q => match d, e with | .bw ns, .int i => (match c6 ns i with | some x => Q (.int x) M | none => False) | _, _ => False
theorem CO (hK : X.K = K) (hG : K = Γ.K) : G3 Γ X zIxS := ⟨_, vk hK, fun β x y d e M H Q Q' _ _ eK m rx ry z q => by
  unfold zIxS at z
  split at z
  · rename_i ns i
    split at z
    · rename_i v hv
      obtain ⟨a, rfl, hS⟩ := qS rx
      rw [eK, ← hG] at hS
      exact .inl ⟨a, _, i, .int v, rfl, aN ry, hS, D2 hv, q _ _ _ _ (.refl m) (.int _) z⟩
    · exact z.elim
  · exact z.elim⟩
end
noncomputable def N0 (k : Nat) : Str := ⟨#[97 + k]⟩
section
variable {κ : Type} [DecidableEq κ]
theorem fK : ∀ (ks U : List κ), ks.Nodup → (∀ k ∈ ks, k ∈ U) → ks.length ≤ U.length
  | [], _, _, _ => Nat.zero_le _
  | k :: ks, U, nd, h => by
    have hn := List.nodup_cons.mp nd
    have hk := h k List.mem_cons_self
    have ih := fK ks (U.erase k) hn.2 fun x hx => (List.mem_erase_of_ne (fun e => hn.1 (by rw [← e]; exact hx))).mpr (h x (List.mem_cons_of_mem _ hx))
    rw [List.length_erase_of_mem hk] at ih
    have := List.length_pos_of_mem hk
    rw [List.length_cons]
    omega
noncomputable def Mq (step : κ → Nat → κ) (met : κ) (w : Str) (st : List κ × List Str) (a : Nat) : List κ × List Str := if step met a ∈ st.1 then st else (st.1 ++ [step met a], st.2 ++ [w ++ N0 a])
noncomputable def visit (step : κ → Nat → κ) (met : κ) (w : Str) (n : Nat) (st : List κ × List Str) : List κ × List Str := (List.range n).foldl (Mq step met w) st
noncomputable def KS (step : κ → Nat → κ) (n most : Nat) : Nat → Nat → List κ × List Str → List κ × List Str
  | 0, _, st => st
  | fuel + 1, i, st => match st.1[i]?, st.2[i]? with
    | some met, some w => if st.1.length ≤ most then KS step n most fuel (i + 1) (visit step met w n st) else st
    | _, _ => st
noncomputable def met (step : κ → Nat → κ) (n most N : Nat) (s : κ) : List κ × List Str := KS step n most (N + 1) 0 ([s], [""])
theorem vH {α : Type} {ks : List κ} {ds : List α} {k : κ} {d : α} (h : k ∉ ks) : putL ks k = ks ++ [k] ∧ cR ks ds k d = ds ++ [d] := by
  unfold putL cR
  rw [if_neg h, if_neg h]
  exact ⟨rfl, rfl⟩
theorem nC {N1 : Type} {f : κ → N1} (hf : ∀ a b, f a = f b → a = b) {x : κ} {ks : List κ} : f x ∈ ks.map f ↔ x ∈ ks := by
  constructor
  · intro h
    obtain ⟨y, hy, e⟩ := List.mem_map.mp h
    rw [← hf _ _ e]; exact hy
  · exact fun h => List.mem_map_of_mem h
end
noncomputable def Mr (p q : cO) : cO := fun ρ M R => p ρ M R ∨ q ρ M R
theorem CP {Γ : Gz} {X : Cx} {tg e : Expr} {p q : cO} (h1 : QI Γ X tg e p) (h2 : QI Γ X tg e q) : QI Γ X tg e (Mr p q) := fun pins s σ H R I h => by
  obtain ⟨β, ρ, M, R', zr, hp | hq, k⟩ := h
  · exact h1 pins s σ H R I ⟨β, ρ, M, R', zr, hp, k⟩
  · exact h2 pins s σ H R I ⟨β, ρ, M, R', zr, hq, k⟩
end L2
namespace L2
open PySem PySem.Spec PySem.W PyProof.Rows
section
variable {prog : Program} {w : World} {K : Type} [DecidableEq K] {knd : HeapKind prog w K} {A : Around} {E : Value → Shared → Prop} {s : Shared}
theorem Ee {d a : Addr} {xs : List (K × Addr × Value)} {k : K} {v : Value} {Q : Value → Shared → Prop} (hu : knd.room A) (nJ : knd.is s.heap k a) (hm : s.heap.DictOfH knd d xs)
    (h1 : ∀ y, (atKey xs k).map (·.2) = some y → Q y { s with toks := s.toks + knd.draws k })
    (h2 : (atKey xs k).map (·.2) = none → ∀ h', h'.DictOfH knd d (storedH xs k a v) → Heap.SameBut d s.heap h' → Q v { s with heap := h', toks := s.toks + knd.draws k })
    (hsz : xs.length ≤ sizeLine) : wpAny (model prog w) A (dictSetDefault d (.ref a) v) Q E s := by
  obtain ⟨o, es, ep, ho, hc, hd, he, KU, hn⟩ := hm
  unfold dictSetDefault
  try with_reducible refine wpAny_holding ?_
  refine wpAny_bind (knd.pyHash hu nJ ?_)
  refine wpAny_bind (wpAny_dictFind_heap (s := { s with toks := s.toks + knd.draws k }) hu nJ ho hd he KU hn ?_ ?_)
  · intro tN
    have Ms : k ∉ xs.map (·.1) := not_mem_keys_of_get tN
    have oV := atKey_none_of_get tN
    refine wpAny_bind (wpAny_rule (wpAny_bind (wpAny_updateDictKeys (hz := by have e := size_of_entries he; omega) (s := { s with toks := s.toks + knd.draws k }) ho hd (wpAny_pure (h2 (by rw [oV]; rfl) _ ⟨_, _, ep + 1, Heap.get?_update_self _ ho (Obj.isFreed_of_dict (Obj.data_mapDictKeys hd _)),
      hc.mapDictKeys _, Obj.data_mapDictKeys hd _, ?_, ?_, ?_⟩ (Heap.SameBut.update ..))))))
    · rw [storedH_new oV]
      simp [he, entryOfKey]
    · rw [storedH_new oV]
      intro x hx
      rcases List.mem_append.mp hx with hx | hx
      · exact knd.keeps (KU x hx) ho hd (Heap.SameBut.update ..)
      · simp only [List.mem_singleton] at hx
        subst hx
        exact knd.keeps nJ ho hd (Heap.SameBut.update ..)
    · rw [storedH_new oV]
      rw [List.map_append, List.nodup_append]
      refine ⟨hn, by simp, ?_⟩
      intro x hx y hy
      simp only [List.map_cons, List.map_nil, List.mem_singleton] at hy
      subst hy
      exact fun e => Ms (e ▸ hx)
  · intro j p hj
    have oV := atKey_of_get hn hj
    refine wpAny_bind (wpAny_dictEntries (s := { s with toks := s.toks + knd.draws k }) ho hd ?_)
    rw [entry_at he j, hj]
    exact wpAny_bind (wpAny_rule (wpAny_pure (h1 _ (by rw [oV]; rfl))))
theorem rG (knd : HeapKind prog w K) (d a : Addr) (hd : (d == sysModules) = false) (dflt : Value) :
    MeetsIn prog w (Builtin.«dict.setdefault» ⟨[.ref d, .ref a, dflt], []⟩) (fun A R s => knd.room A.in1 ∧ ∃ k xs, knd.is s.heap k a ∧ s.heap.DictOfH knd d xs ∧ xs.length ≤ sizeLine ∧
      (∀ v, (atKey xs k).map (·.2) = some v → R (.ok (.ret v)) { s with toks := s.toks + knd.draws k }) ∧
      ((atKey xs k).map (·.2) = none → ∀ h', h'.DictOfH knd d (storedH xs k a dflt) → Heap.SameBut d s.heap h' → R (.ok (.ret dflt)) { s with heap := h', toks := s.toks + knd.draws k })) :=
  .of_wp fun A R s hh => by
    obtain ⟨hu, k, xs, nJ, hm, hz, h1, h2⟩ := hh
    unfold Builtin.«dict.setdefault»
    refine wpAny_bind ?_
    unfold Builtin.Dict.keyAndDefault
    refine wpAny_bind (wpAny_notOrdered_dict hm.typeIs ?_)
    show wpAny _ _ (pure (d, Value.ref a, some dflt)) _ _ s
    refine wpAny_pure ?_
    show wpAny _ _ (if (d == sysModules) = true then _ else (dictSetDefault d (Value.ref a) dflt >>= _)) _ _ s
    rw [if_neg (by rw [hd]; exact Bool.false_ne_true)]
    exact wpAny_bind (Ee hu nJ hm (fun v hv => wpAny_pure ⟨v, rfl, h1 v hv⟩) (fun hn h' lH gJ => wpAny_pure ⟨dflt, rfl, h2 hn h' lH gJ⟩) hz)
end
section
variable {X : Cx} {pins : List (Addr × Obj)} {σ : St} {H : Hp} {s : Shared} {a b : Addr} {A : Around} {E : Value → Shared → Prop}
theorem tO {aq : List (List Key × V)} {k : List Key} {d : V} {r : Value} {Q : Value → Shared → Prop} (hu : A.units + 1 < cLine) (I : Inv X pins σ H s) (e : H a = some (.dT aq)) (eb : H b = some (.tup (k.map kV))) (l : aq.length < sizeLine) (rd : RelV d r)
    (h1 : ∀ v, eL aq k = some v → ∀ w' s', Inv X pins σ H s' → RelV v w' → Q w' s') (h2 : eL aq k = none → ∀ s', Inv X pins σ (upd H a (.dT (putK aq k d))) s' → Q r s') :
    wpAny (model X.prog X.w) A (call (.builtin "dict.setdefault") [.ref a, .ref b, r]) Q E s := by
  obtain ⟨z, hd, xs, rel, dd⟩ := rQ I.hok e
  have hz : xs.length ≤ sizeLine := by rw [← Paired.length rel]; exact z
  have hl : (putK aq k d).length ≤ sizeLine := by have := fB aq k d; omega
  have rv := rel.val k
  refine call_meetsIn PySem.F.slot_dict_setdefault dd.typeIs PySem.F.entry_dict_setdefault (PySem.F.args_dict_setdefault_3 _ _ _) (rG (tupleKind (bA X.prog X.w)) a b hd r) ⟨tupleKind_room_in1 hu, k, xs, gu I.hok eb, dd, hz, fun y hy => ?_, fun hn h' jZ hs => ?_⟩
  · rw [hy] at rv
    cases hv : eL aq k with
    | none => rw [hv] at rv; exact rv.elim
    | some v => rw [hv] at rv; exact h1 v hv _ _ (I.tok _) rv
  · rw [hn] at rv
    cases hv : eL aq k with
    | some v => rw [hv] at rv; exact rv.elim
    | none =>
      obtain ⟨q, es, ep, hq, g2, g3, g4, _, g5⟩ := jZ
      refine h2 hv _ (iQ I (by rw [e]; exact True.intro) hs ⟨q, hq⟩ ⟨hl, hd, _, (rel.put k eb rd).keeps fun c ys ec => ?_, q, es, ep, hq, g2, g3, g4, g5⟩)
      rw [ai (og ec e (fun z => nomatch z))]
      exact ec
end
noncomputable def Ef : V → List V → Hp → VK → Prop := fun x xs H Q => ∃ a b k aq d, x = .ref a ∧ xs = [.ref b, d] ∧ H a = some (.dT aq) ∧ H b = some (.tup (k.map kV)) ∧ aq.length < sizeLine ∧ (∀ v, eL aq k = some v → Q v H) ∧ (eL aq k = none → Q d (upd H a (.dT (putK aq k d))))
theorem zm {X : Cx} (hu : X.A.units + 64 < cLine) : so X "dict.setdefault" Ef := by
  intro pins s σ H x xs v us Q I rx rs h
  obtain ⟨a, b, k, aq, d, rfl, rfl, e, eb, l, h1, h2⟩ := h
  cases (show v = Value.ref a from rx)
  cases rs with
  | cons r1 rs => cases rs with
    | cons r2 rs =>
      cases rs
      rename_i u1 u2
      cases (show u1 = Value.ref b from r1)
      exact tO (by omega) I e eb l r2 (fun v hv w' s' I' eW => ⟨v, H, I', eW, h1 v hv⟩) fun hn s' I' => ⟨d, _, I', r2, h2 hn⟩
noncomputable def zSetDef : ll := fun d ds M Q => match d, ds with
  | .ptr a, [.tup es, x] => (match M a, eU es with | some (.dt ks vs), some k => ks.length < sizeLine ∧ (match look ks vs k with | some r => Q r M | none => Q x (av M a (.dt (ks ++ [k]) (vs ++ [x])))) | _, _ => False)
  | _, _ => False
theorem Br {Γ : Gz} {X : Cx} {K : PySem.W.Frag} (hu : X.A.units + 64 < cLine) : nu Γ X "dict" "dict.setdefault" K zSetDef := ⟨_, zm hu, fun β x xs d ds M H Q Q' eP ew eK m r rs z q => by
  unfold zSetDef at z
  split at z
  · rename_i a es y
    obtain ⟨rfl, hs⟩ := bD r
    obtain ⟨x1, x2, rfl, r1, r2⟩ := gR rs
    split at z
    · rename_i ks vs k hM hk
      obtain ⟨us, ha, hl, CQ⟩ := m.obj a _ hM
      obtain ⟨b, ws, rfl, _, hb, rb⟩ := bX r1
      rw [gW rb hk] at hb
      obtain ⟨z1, z2⟩ := z
      refine ⟨a, b, k, _, x2, rfl, rfl, ha, hb, by rw [List.length_zip, ← hl, Nat.min_self]; exact z1, fun v hv => ?_, fun hn => ?_⟩
      · rw [gV] at hv
        cases tL : look ks vs k with
        | none => rw [je k ks vs us CQ.len.symm tL] at hv; cases hv
        | some r0 =>
          obtain ⟨ov, e1, e2, e3⟩ := nS CQ tL
          rw [gV, hv] at e1
          subst e1
          obtain ⟨v', ev, Hm⟩ := e3 r0 rfl
          cases ev
          simp only [tL] at z2
          exact q _ _ _ _ (.refl m) Hm z2
      · rw [gV] at hn
        have CT : k ∉ ks := (iw hl).mp hn
        have tL : look ks vs k = none := (iw (hl.trans CQ.len)).mpr CT
        simp only [tL] at z2
        have hp : (M a).isSome = true := by rw [hM]; rfl
        have x4 : Ex β M H (av M a (.dt (putL ks k) (cR ks vs k y))) (upd H a (.dT ((putL ks k).zip (cR ks us k x2)))) := Ex.A7 m (.inl hp) (kM hl k x2) (jf k r2 CQ)
        rw [mQ hl]
        rw [show putL ks k = ks ++ [k] from if_neg CT, show cR ks vs k y = vs ++ [y] from if_neg CT] at x4
        rw [show putL ks k = ks ++ [k] from if_neg CT]
        exact q _ _ _ _ x4 (r2.ex x4) z2
    · exact z.elim
  · exact z.elim⟩
noncomputable def dU {α : Type} (R : Nat → Int) (n : Nat) : KasT α → (α → Prop) → Prop
  | .ret a, Q => Q a
  | .ask i j k, Q => i < n ∧ j < n ∧ dU R n (k (decide (R i < R j))) Q
theorem f9 {α β : Type} {R : Nat → Int} {n : Nat} {f : α → KasT β} {Q : β → Prop} : ∀ {t : KasT α}, dU R n t (fun a => dU R n (f a) Q) → dU R n (t.bind f) Q
  | .ret _, h => h
  | .ask _ _ k, h => ⟨h.1, h.2.1, f9 (t := k _) h.2.2⟩
structure Pm (n : Nat) (p : Array Nat) : Prop where
  sz : p.size = n
  pm : p.toList.Perm (List.range n)
theorem Pm.lt {n : Nat} {p : Array Nat} (h : Pm n p) {k : Nat} (hk : k < n) : p.getD k 0 < n := by
  have ny : k < p.size := by rw [h.sz]; exact hk
  have e : p.getD k 0 = p[k] := by simp [Array.getD, ny]
  rw [e]
  have : p[k] ∈ p.toList := by simp
  exact List.mem_range.mp (h.pm.mem_iff.mp this)
theorem Pm.of {n : Nat} {p p' : Array Nat} (h : Pm n p) (hs : p'.size = p.size) (hp : p'.Perm p) : Pm n p' := ⟨hs.trans h.sz, (Array.perm_iff_toList_perm.mp hp).trans h.pm⟩
noncomputable def rk (R : Nat → Int) (p : Array Nat) (k : Nat) : Int := R (p.getD k 0)
theorem gX (p : Array Nat) (k : Nat) : p.getD k 0 = (p[k]?).getD 0 := by simp [Array.getD_eq_getD_getElem?]
theorem oW (R : Nat → Int) {p : Array Nat} {i j : Nat} (hj : j ≤ p.size) (k : Nat) : rk R (kas_rev p i j) k = if i ≤ k ∧ k < j then rk R p (i + j - 1 - k) else rk R p k := by
  unfold rk kas_rev
  rw [gX, getElem?_mirror_all hj k]
  split <;> rw [gX]
theorem zp (R : Nat → Int) {p : Array Nat} {src d : Nat} (hs : src < p.size) (hd : d ≤ src) (k : Nat) : rk R (bubble p src d) k = if k = src - d then rk R p src else if src - d < k ∧ k ≤ src then rk R p (k - 1) else rk R p k := by
  unfold rk
  rw [gX, gX p src, gX p (k - 1), gX p k, getElem?_bubble hs d hd k]
  by_cases h1 : k = src - d
  · rw [if_pos h1, if_pos h1]
  · rw [if_neg h1, if_neg h1]
    by_cases h2 : src - d < k ∧ k ≤ src
    · rw [if_pos h2, if_pos h2]
    · rw [if_neg h2, if_neg h2]
noncomputable def ml (R : Nat → Int) (p : Array Nat) (m : Nat) : Prop := ∀ a b, a ≤ b → b < m → rk R p a ≤ rk R p b
noncomputable def nE (R : Nat → Int) (p : Array Nat) (m : Nat) : Prop := ∀ a b, a ≤ b → b < m → rk R p b ≤ rk R p a
section
variable {R : Nat → Int} {n : Nat}
theorem tP {p : Array Nat} (hp : Pm n p) {Q : Nat → Prop} : ∀ (f m : Nat), ml R p m → 1 ≤ m → m + f ≤ n → (∀ m', m ≤ m' → m' ≤ m + f → ml R p m' → (m' < m + f → rk R p m' < rk R p (m' - 1)) → Q m') → dU R n (kas_asc p f m) Q
  | 0, m, ha, h1, hn, q => q m (Nat.le_refl _) (Nat.le_refl _) ha (fun h => absurd h (Nat.lt_irrefl _))
  | f + 1, m, ha, h1, hn, q => by
    refine ⟨hp.lt (by omega), hp.lt (by omega), ?_⟩
    show dU R n (if decide (rk R p m < rk R p (m - 1)) = true then _ else _) Q
    by_cases h : rk R p m < rk R p (m - 1)
    · rw [decide_eq_true h, if_pos rfl]
      exact q m (Nat.le_refl _) (by omega) ha (fun _ => h)
    · rw [decide_eq_false h, if_neg Bool.false_ne_true]
      refine tP hp f (m + 1) (fun a b dj hb => ?_) (by omega) (by omega) fun m' h2 h3 h4 h5 => q m' (by omega) (by omega) h4 (fun z => h5 (by omega))
      rcases Nat.lt_or_ge b m with z | z
      · exact ha a b dj z
      · have eb : b = m := by omega
        subst eb
        rcases Nat.lt_or_ge a b with y | y
        · have := ha a (b - 1) (by omega) (by omega)
          omega
        · have : a = b := by omega
          subst this
          exact Int.le_refl _
theorem nE.rev {p : Array Nat} {m i : Nat} (hm : m ≤ p.size) (h : nE R p m) (he : ∀ k, i ≤ k → k < m → rk R p k = rk R p (m - 1)) : nE R (kas_rev p i m) m ∧ ∀ k, rk R (kas_rev p i m) k = rk R p k := by
  have e : ∀ k, rk R (kas_rev p i m) k = rk R p k := fun k => by
    rw [oW R hm]
    split
    · rename_i z
      rw [he (i + m - 1 - k) (by omega) (by omega), he k z.1 z.2]
    · rfl
  exact ⟨fun a b dj hb => by rw [e a, e b]; exact h a b dj hb, e⟩
theorem Pm.rev {p : Array Nat} (h : Pm n p) (i j : Nat) : Pm n (kas_rev p i j) := h.of (mirror_size _ _ _ _) (mirror_perm _ _ _ _)
theorem mS {Q : Array Nat × Nat × Nat → Prop} : ∀ (f : Nat) (p : Array Nat) (m q : Nat), Pm n p → nE R p m → (∀ k, m - (q + 1) ≤ k → k < m → rk R p k = rk R p (m - 1)) → q + 1 ≤ m → m + f ≤ n →
    (∀ p' m' q', Pm n p' → nE R p' m' → (∀ k, m' - (q' + 1) ≤ k → k < m' → rk R p' k = rk R p' (m' - 1)) → q' + 1 ≤ m' → m' ≤ n → Q (p', m', q')) → dU R n (kas_desc f p m q) Q
  | 0, p, m, q, hp, hd, he, hq, hn, k => k p m q hp hd he hq (by omega)
  | f + 1, p, m, q, hp, hd, he, hq, hn, k => by
    have hsz := hp.sz
    refine ⟨hp.lt (by omega), hp.lt (by omega), ?_⟩
    show dU R n (if decide (rk R p m < rk R p (m - 1)) = true then _ else _) Q
    by_cases h : rk R p m < rk R p (m - 1)
    · rw [decide_eq_true h, if_pos rfl]
      have more : ∀ p', Pm n p' → (∀ k, rk R p' k = rk R p k) → nE R p' (m + 1) := fun p' _ e a b dj hb => by
        rw [e a, e b]
        rcases Nat.lt_or_ge b m with z | z
        · exact hd a b dj z
        · have eb : b = m := by omega
          subst eb
          rcases Nat.lt_or_ge a b with y | y
          · have := hd a (b - 1) (by omega) (by omega)
            omega
          · have : a = b := by omega
            subst this
            exact Int.le_refl _
      have one : ∀ p' : Array Nat, ∀ k, m + 1 - (0 + 1) ≤ k → k < m + 1 → rk R p' k = rk R p' (m + 1 - 1) := fun p' k h1 h2 => by rw [show k = m by omega]; rfl
      by_cases KW : q > 0
      · rw [if_pos KW]
        obtain ⟨_, e⟩ := nE.rev (i := m - (q + 1)) (show m ≤ p.size by omega) hd he
        exact mS f _ (m + 1) 0 (hp.rev _ _) (more _ (hp.rev _ _) e) (one _) (by omega) (by omega) k
      · rw [if_neg KW]
        exact mS f p (m + 1) 0 hp (more p hp fun _ => rfl) (one p) (by omega) (by omega) k
    · rw [decide_eq_false h, if_neg Bool.false_ne_true]
      refine ⟨hp.lt (by omega), hp.lt (by omega), ?_⟩
      show dU R n (if decide (rk R p (m - 1) < rk R p m) = true then _ else _) Q
      by_cases h2 : rk R p (m - 1) < rk R p m
      · rw [decide_eq_true h2, if_pos rfl]
        exact k p m q hp hd he hq (by omega)
      · rw [decide_eq_false h2, if_neg Bool.false_ne_true]
        have e : rk R p m = rk R p (m - 1) := by omega
        refine mS f p (m + 1) (q + 1) hp (fun a b dj hb => ?_) (fun x h3 h4 => ?_) (by omega) (by omega) k
        · rcases Nat.lt_or_ge b m with z | z
          · exact hd a b dj z
          · have eb : b = m := by omega
            subst eb
            rcases Nat.lt_or_ge a b with y | y
            · rw [e]; exact hd a (b - 1) (by omega) (by omega)
            · have : a = b := by omega
              subst this
              exact Int.le_refl _
        · show rk R p x = rk R p m
          rcases Nat.lt_or_ge x m with z | z
          · rw [e]; exact he x (by omega) z
          · rw [show x = m by omega]
theorem tQ {m : Nat} {p : Array Nat} (hp : Pm n p) (hd : nE R p m) (h1 : 1 ≤ m) (hm : m ≤ n) {Q : Nat × Array Nat → Prop} (q : ∀ m' p', Pm n p' → ml R p' m' → 1 ≤ m' → m' ≤ n → Q (m', p')) : dU R n (kas_tail3 m n p) Q := by
  have hsz := hp.sz
  refine f9 (tP (hp.rev 0 m) (n - m) m (fun a b dj hb => ?_) h1 (by omega) fun m' h2 h3 h4 _ => q m' _ (hp.rev 0 m) h4 (by omega) (by omega))
  rw [oW R (by omega), oW R (by omega), if_pos ⟨by omega, by omega⟩, if_pos ⟨by omega, by omega⟩]
  exact hd _ _ (by omega) (by omega)
theorem nF {m : Nat} {p : Array Nat} (hp : Pm n p) (hd : nE R p (m + 1)) (hm : m + 1 ≤ n) {Q : Nat × Array Nat → Prop} (q : ∀ m' p', Pm n p' → ml R p' m' → 1 ≤ m' → m' ≤ n → Q (m', p')) : dU R n (kas_descPart m n p) Q := by
  refine f9 (mS (n - (m + 1)) p (m + 1) 0 hp hd (fun k h1 h2 => by rw [show k = m by omega]; rfl) (by omega) (by omega) fun p' m' q' Hn sf he hq hn => ?_)
  have hsz := Hn.sz
  show dU R n (if q' > 0 then kas_tail3 m' n (kas_rev p' (m' - (q' + 1)) m') else kas_tail3 m' n p') Q
  by_cases h : q' > 0
  · rw [if_pos h]
    exact tQ (Hn.rev _ _) (nE.rev (by omega) sf he).1 (by omega) hn q
  · rw [if_neg h]
    exact tQ Hn sf (by omega) hn q
theorem Bs {p : Array Nat} (hp : Pm n p) (h1 : 1 ≤ n) {Q : Nat × Array Nat → Prop} (q : ∀ m' p', Pm n p' → ml R p' m' → 1 ≤ m' → m' ≤ n → Q (m', p')) : dU R n (kas_count n p) Q := by
  have hsz := hp.sz
  refine f9 (tP hp (n - 1) 1 (fun a b dj hb => by rw [show a = b by omega]; exact Int.le_refl _) (Nat.le_refl _) (by omega) fun m h2 h3 h4 h5 => ?_)
  by_cases e : m = n
  · rw [if_pos (by simpa using e)]
    exact q m p hp h4 h2 (by omega)
  · rw [if_neg (by simpa using e)]
    have bu := h5 (by omega)
    by_cases hm : m > 1
    · rw [if_pos hm]
      refine ⟨hp.lt (by omega), hp.lt (by omega), ?_⟩
      show dU R n (if decide (rk R p 0 < rk R p (m - 1)) = true then _ else _) Q
      by_cases h : rk R p 0 < rk R p (m - 1)
      · rw [decide_eq_true h, if_pos rfl]
        exact q m p hp h4 (by omega) (by omega)
      · rw [decide_eq_false h, if_neg Bool.false_ne_true]
        have eq : ∀ k, k < m → rk R p k = rk R p (m - 1) := fun k hk => by
          have a1 := h4 k (m - 1) (by omega) (by omega)
          have a2 := h4 0 k (by omega) hk
          omega
        have er : ∀ k, rk R (kas_rev p 0 m) k = rk R p k := fun k => by
          rw [oW R (by omega)]
          split
          · rename_i z
            rw [eq (0 + m - 1 - k) (by omega), eq k z.2]
          · rfl
        refine nF (hp.rev 0 m) (fun a b dj hb => ?_) (by omega) q
        rw [er, er]
        rcases Nat.lt_or_ge b m with z | z
        · rw [eq a (by omega), eq b z]; exact Int.le_refl _
        · have eb : b = m := by omega
          subst eb
          rcases Nat.lt_or_ge a b with y | y
          · rw [eq a y]; omega
          · rw [show a = b by omega]; exact Int.le_refl _
    · rw [if_neg hm]
      have em : m = 1 := by omega
      subst em
      refine nF hp (fun a b dj hb => ?_) (by omega) q
      have bu : rk R p 1 < rk R p 0 := bu
      match a, b, dj, hb with
      | 0, 0, _, _ => exact Int.le_refl _
      | 0, 1, _, _ => omega
      | 1, 1, _, _ => exact Int.le_refl _
      | a, b + 2, _, hb => omega
      | a + 2, b, h, hb => omega
      | 1, 0, h, _ => omega
theorem nU {p : Array Nat} (hp : Pm n p) {k : Nat} (hk : k < n) (ha : ml R p k) {Q : Nat → Prop} : ∀ (f l r : Nat), r - l ≤ f → l ≤ r → r ≤ k → (∀ a, a < l → rk R p a ≤ rk R p k) → (∀ a, r ≤ a → a < k → rk R p k < rk R p a) →
    (∀ l, l ≤ k → (∀ a, a < l → rk R p a ≤ rk R p k) → (∀ a, l ≤ a → a < k → rk R p k < rk R p a) → Q l) → dU R n (kas_place p k f l r) Q
  | 0, l, r, hf, hl, hr, h1, h2, q => q l (by omega) h1 (fun a x y => h2 a (by omega) y)
  | f + 1, l, r, hf, hl, hr, h1, h2, q => by
    unfold kas_place
    by_cases e : l ≥ r
    · rw [if_pos e]
      exact q l (by omega) h1 (fun a x y => h2 a (by omega) y)
    · rw [if_neg e]
      refine ⟨hp.lt hk, hp.lt (by omega), ?_⟩
      show dU R n (if decide (rk R p k < rk R p ((l + r) / 2)) = true then _ else _) Q
      by_cases h : rk R p k < rk R p ((l + r) / 2)
      · rw [decide_eq_true h, if_pos rfl]
        refine nU hp hk ha f l ((l + r) / 2) (by omega) (by omega) (by omega) h1 (fun a x y => ?_) q
        have := ha ((l + r) / 2) a x y
        omega
      · rw [decide_eq_false h, if_neg Bool.false_ne_true]
        refine nU hp hk ha f ((l + r) / 2 + 1) r (by omega) (by omega) hr (fun a x => ?_) h2 q
        have := ha a ((l + r) / 2) (by omega) (by omega)
        omega
theorem zq {Q : Array Nat → Prop} : ∀ (f : Nat) (p : Array Nat) (k : Nat), Pm n p → ml R p k → k + f = n → (∀ p', Pm n p' → ml R p' n → Q p') → dU R n (kas_bin f p k) Q
  | 0, p, k, hp, ha, hn, q => q p hp (by rw [← hn]; exact ha)
  | f + 1, p, k, hp, ha, hn, q => by
    have hsz := hp.sz
    refine f9 (nU hp (by omega) ha k 0 k (by omega) (by omega) (Nat.le_refl _) (fun a h => by omega) (fun a h1 h2 => by omega) fun l hl h1 h2 => ?_)
    refine zq f _ (k + 1) (hp.of (bubble_size _ _ _) (bubble_perm _ _ _)) (fun a b dj hb => ?_) (by omega) q
    have hd : k - (k - l) = l := by omega
    rw [zp R (by omega) (by omega), zp R (by omega) (by omega), hd]
    by_cases a1 : a = l
    · rw [if_pos a1]
      by_cases b1 : b = l
      · rw [if_pos b1]; exact Int.le_refl _
      · rw [if_neg b1, if_pos ⟨by omega, by omega⟩]
        exact Int.le_of_lt (h2 (b - 1) (by omega) (by omega))
    · rw [if_neg a1]
      by_cases b1 : b = l
      · rw [if_pos b1, if_neg (by omega)]
        exact h1 a (by omega)
      · rw [if_neg b1]
        by_cases a2 : l < a ∧ a ≤ k
        · rw [if_pos a2, if_pos ⟨by omega, by omega⟩]
          exact ha _ _ (by omega) (by omega)
        · rw [if_neg a2]
          by_cases b2 : l < b ∧ b ≤ k
          · rw [if_pos b2]
            exact ha _ _ (by omega) (by omega)
          · rw [if_neg b2]
            exact ha _ _ dj (by omega)
theorem Eg (h1 : 1 ≤ n) {Q : Array Nat → Prop} (q : ∀ p, Pm n p → ml R p n → Q p) : dU R n (kas_sort n) Q := by
  have h0 : Pm n (List.toArray (List.range n)) := ⟨by simp, by simp⟩
  refine f9 (Bs h0 h1 fun m p hp ha k9 MQ => ?_)
  show dU R n (if m < n then kas_bin (n - max m 1) p (max m 1) else .ret p) Q
  have em : max m 1 = m := by omega
  rw [em]
  by_cases h : m < n
  · rw [if_pos h]
    exact zq _ p m hp ha (by omega) q
  · rw [if_neg h]
    exact q p hp (by rw [show n = m by omega]; exact ha)
end
theorem tR {α : Type} {cmp : Nat → Nat → (Bool → Shared → Prop) → Shared → Prop} {I : Shared → Prop} {R : Nat → Int} {n : Nat} (hc : ∀ i j C s, i < n → j < n → I s → (∀ s', I s' → C (decide (R i < R j)) s') → cmp i j C s) : ∀ (t : KasT α) (Q : α → Shared → Prop) (s : Shared), I s → dU R n t (fun a => ∀ s', I s' → Q a s') → t.kasWp cmp Q s
  | .ret _, Q, s, hI, h => h s hI
  | .ask i j k, Q, s, hI, h => hc i j _ s h.1 h.2.1 hI fun s' N3 => tR hc (k _) Q s' N3 h.2.2
theorem oX : ∀ a : List Int, HT.lexLt a a = false
  | [] => rfl
  | x :: a => by rw [HT.iH, if_pos rfl]; exact oX a
theorem jh : ∀ {a b c : List Int}, HT.lexLt a b = true → HT.lexLt b c = true → HT.lexLt a c = true
  | [], [], _, h, _ => by cases h
  | [], _ :: _, [], _, h => by cases h
  | [], _ :: _, _ :: _, _, _ => rfl
  | _ :: _, [], _, h, _ => by cases h
  | _ :: _, _ :: _, [], _, h => by cases h
  | x :: a, y :: b, z :: c, h1, h2 => by
    rw [HT.iH] at h1 h2 ⊢
    by_cases e1 : x = y
    · subst e1
      rw [if_pos rfl] at h1
      by_cases e2 : x = z
      · subst e2
        rw [if_pos rfl] at h2 ⊢
        exact jh h1 h2
      · rw [if_neg e2] at h2 ⊢
        exact h2
    · rw [if_neg e1] at h1
      have h1 := of_decide_eq_true h1
      by_cases e2 : y = z
      · subst e2
        rw [if_neg e1]
        exact decide_eq_true h1
      · rw [if_neg e2] at h2
        have h2 := of_decide_eq_true h2
        rw [if_neg (by omega)]
        exact decide_eq_true (by omega)
theorem oY : ∀ {a b : List Int}, HT.lexLt a b = false → HT.lexLt b a = false → a = b
  | [], [], _, _ => rfl
  | [], _ :: _, h, _ => by cases h
  | _ :: _, [], _, h => by cases h
  | x :: a, y :: b, h1, h2 => by
    rw [HT.iH] at h1 h2
    by_cases e : x = y
    · subst e
      rw [if_pos rfl] at h1 h2
      rw [oY h1 h2]
    · rw [if_neg e] at h1
      rw [if_neg (Ne.symm e)] at h2
      have h1 := of_decide_eq_false h1
      have h2 := of_decide_eq_false h2
      exact absurd (show x = y by omega) e
noncomputable def rg (rows : List (List Int)) (r : List Int) : Int := (rows.countP fun x => HT.lexLt x r : Nat)
theorem rh {α : Type} {p q : α → Bool} (Ho : ∀ x, p x = true → q x = true) : ∀ {l : List α} {a : α}, a ∈ l → q a = true → p a = false → l.countP p < l.countP q
  | x :: l, a, h, hq, hp => by
    have le : l.countP p ≤ l.countP q := List.countP_mono_left fun x _ => Ho x
    rcases List.mem_cons.mp h with rfl | h
    · rw [List.countP_cons_of_neg (by simp [hp]), List.countP_cons_of_pos hq]
      omega
    · have ih := rh Ho h hq hp
      rw [List.countP_cons, List.countP_cons]
      by_cases e : p x = true
      · rw [if_pos e, if_pos (Ho x e)]; omega
      · rw [if_neg e]
        split <;> omega
theorem zt {rows : List (List Int)} {a b : List Int} (ha : a ∈ rows) : decide (rg rows a < rg rows b) = HT.lexLt a b := by
  unfold rg
  cases h : HT.lexLt a b with
  | true =>
    refine decide_eq_true ?_
    have := rh (p := fun x => HT.lexLt x a) (q := fun x => HT.lexLt x b) (fun x hx => jh hx h) ha h (oX a)
    omega
  | false =>
    refine decide_eq_false ?_
    have : rows.countP (fun x => HT.lexLt x b) ≤ rows.countP (fun x => HT.lexLt x a) := List.countP_mono_left fun x _ hx => by
      cases h2 : HT.lexLt b a with
      | true => exact jh hx h2
      | false => rw [oY h h2]; exact hx
    omega
noncomputable def eY (h : Heap) (v : Value) (row : List Int) : Prop := ∃ b o xs n, v = .ref b ∧ h.get? b = some o ∧ o.cls = .type "tuple" ∧ o.data = .seq xs n ∧ IntsAre xs.toList row ∧ row ≠ []
section
variable {prog : Program} {w : World} {A : Around} {E : Value → Shared → Prop} {s : Shared}
theorem nG {fin : Bool} {Q : Bool → Shared → Prop} : ∀ {us ws : List Value} {ns ms : List Int} (i : Nat), IntsAre us ns → IntsAre ws ms → fin = decide (us.length < ws.length) → Q (HT.lexLt ns ms) s → KatLex prog w A true fin Q (us.zip ws) i s
  | [], [], [], [], i, _, _, hf, q => by
    refine kat_nil ?_
    rw [hf]
    exact q
  | [], y :: ws, [], m :: ms, i, _, _, hf, q => by
    refine kat_nil ?_
    rw [hf]
    exact q
  | x :: us, [], n :: ns, [], i, _, _, hf, q => by
    refine kat_nil ?_
    rw [hf]
    exact q
  | x :: us, y :: ws, n :: ns, m :: ms, i, hu, hw, hf, q => by
    cases hu with
    | cons _ t hu =>
    cases hw with
    | cons _ t2 hw =>
    rw [HT.iH] at q
    refine kat_cons (PySem.SeqAt.EqAt.int_int n t m t2 prog w _ _ (kat_go (fun e => kat_yes ?_) (fun e => kat_no ?_)))
    · have e : n = m := by simpa using e
      rw [if_pos e] at q
      exact nG (i + 1) hu hw (by rw [hf]; simp) q
    · have e : n ≠ m := by simpa using e
      rw [if_neg e] at q
      cases hi : (i == 0) with
      | true => exact oneLt_int q
      | false => exact kat_one _ _ (PyProof.Rows.lt_int q)
theorem wH {v1 v2 : Value} {r1 r2 : List Int} {Q : Bool → Shared → Prop} (h1 : eY s.heap v1 r1) (h2 : eY s.heap v2 r2) (q : Q (HT.lexLt r1 r2) s) : wpAny (model prog w) A (keyLt' (tuples' true) v1 v2) Q E s := by
  obtain ⟨b, o, xs, n, rfl, ho, hc, hd, hi, _⟩ := h1
  obtain ⟨b2, o2, OY, n2, rfl, N4, zu, hd2, jY, _⟩ := h2
  exact kat_lt ho hd N4 hd2 (nG 0 hi jY (by simp) q)
theorem oZ : ∀ {vs : List Value} {rows : List (List Int)}, Paired (fun v r => eY s.heap v r) vs rows → ∃ fs, KatTups s.heap vs fs ∧ fs.length = vs.length ∧ ∀ f ∈ fs, ∃ n t, f = .int n t
  | [], [], _ => ⟨[], .nil, rfl, fun _ h => nomatch h⟩
  | v :: vs, r :: rows, h => by
    obtain ⟨r', JL, e, hv, ht⟩ := hV h
    cases e
    obtain ⟨fs, k1, k2, k3⟩ := oZ ht
    obtain ⟨b, o, xs, n, rfl, ho, hc, hd, hi, fY⟩ := hv
    obtain ⟨ls⟩ := xs
    cases hi with
    | nil => exact absurd rfl fY
    | cons m t hi => exact ⟨_, .cons ho hc hd (f := .int m t) (by simp) k1, by simp [k2], fun f hf => by
        rcases List.mem_cons.mp hf with rfl | hf
        · exact ⟨_, _, rfl⟩
        · exact k3 f hf⟩
theorem p8 {a : Addr} {vs : List Value} {rows : List (List Int)} {n : Nat} {P : PySem.Fin → Shared → Prop} (ho : s.heap.get? a = some (seqObj "list" vs.toArray n))
    (hr : Paired (fun v r => eY s.heap v r) vs rows) (zv : vs.length < 64)
    (h : ∀ (p : Array Nat), Pm vs.length p → (∀ i j, i ≤ j → j < vs.length → HT.lexLt (rows.getD (p.getD j 0) []) (rows.getD (p.getD i 0) []) = false) → P (.done (.ret .none)) { s with heap := sortedHeap s.heap a vs (List.toArray (p.toList.map fun i => vs.getD i Value.none)) }) :
    wpAny (model prog w) A (Builtin.«list.sort» ⟨[.ref a], []⟩) P E s := by
  rw [list_sort_plain]
  have ha : a < s.heap.objs.size := Heap.lt_size ho
  have KY : vs.length = rows.length := Paired.length hr
  refine wpAny_bind (listItems_at ho rfl ?_)
  refine wpAny_bind (listUpdate_at ho rfl ?_ (by rw [List.size_toArray, sizeLine_eq]; omega) (Nat.zero_le _))
  obtain ⟨e1, KZ⟩ : ∃ e1, (s.heap.update a (Obj.mapSeq fun _ => (#[] : Array Value))).get? a = some (seqObj "list" #[] e1) := ⟨_, get?_update_seq ho fun _ => #[]⟩
  refine wpAny_bind (seqEpoch_at KZ rfl ?_)
  refine wpAny_bind (wpAny_newTuple ?_ (by show vs.length ≤ _; rw [sizeLine_eq]; omega))
  refine wpAny_bind (wpAny_newList ?_ (Nat.zero_le _))
  refine wpAny_holding ?_
  have zx : (((s.heap.update a (Obj.mapSeq fun _ => #[])).push (seqObj "tuple" vs.toArray 0)).push (seqObj "list" #[] 0)).get? a = some (seqObj "list" #[] e1) := by
    rw [Heap.get?_push_ne _ _ _ (by rw [size_push', Heap.size_update]; exact Nat.ne_of_lt (Nat.lt_succ_of_lt ha)), Heap.get?_push_ne _ _ _ (by rw [Heap.size_update]; exact Nat.ne_of_lt ha)]
    exact KZ
  show wpAny (model prog w) A _ P E { s with heap := ((s.heap.update a (Obj.mapSeq fun _ => (#[] : Array Value))).push (seqObj "tuple" vs.toArray 0)).push (seqObj "list" #[] 0) }
  obtain ⟨hh, Hq⟩ : ∃ hh, hh = ((s.heap.update a (Obj.mapSeq fun _ => (#[] : Array Value))).push (seqObj "tuple" vs.toArray 0)).push (seqObj "list" #[] 0) := ⟨_, rfl⟩
  rw [← Hq] at zx ⊢
  have keep : ∀ b o, b ≠ a → s.heap.get? b = some o → hh.get? b = some o := fun b o hb e => by
    have bu := Heap.lt_size e
    rw [Hq, Heap.get?_push_ne _ _ _ (by rw [size_push', Heap.size_update]; exact Nat.ne_of_lt (Nat.lt_succ_of_lt bu)), Heap.get?_push_ne _ _ _ (by rw [Heap.size_update]; exact Nat.ne_of_lt bu), Heap.get?_update_ne _ _ _ _ hb]
    exact e
  have tr : ∀ {v r}, eY s.heap v r → eY hh v r := fun h => by
    obtain ⟨b, o, xs, n, rfl, eQ, hc, hd, hi⟩ := h
    exact ⟨b, o, xs, n, rfl, keep b o (fun z => by subst z; rw [ho] at eQ; injection eQ with eQ; subst eQ; injection hc with hc; exact absurd hc (by decide)) eQ, hc, hd, hi⟩
  have vI : Paired (fun v r => eY hh v r) vs rows := Paired.imp' (fun _ _ h => tr h) hr
  dsimp only
  have hsz : vs.toArray.size = vs.length := by simp
  have fin : ∀ p : Array Nat, Pm vs.length p → (∀ i j, i ≤ j → j < vs.length → HT.lexLt (rows.getD (p.getD j 0) []) (rows.getD (p.getD i 0) []) = false) → P (.done (.ret .none)) { s with heap := hh.update a (Obj.mapSeq fun _ => List.toArray (p.toList.map fun i => vs.getD i Value.none)) } := fun p h1 h2 => by
    have := h p h1 h2
    unfold sortedHeap at this
    rw [← Hq] at this
    exact this
  by_cases h2 : vs.toArray.size < 2
  · rw [if_pos h2, if_pos h2]
    refine wpAny_bind (wpAny_pure ?_)
    rw [StateT.run_pure]
    refine wpAny_bind (wpAny_pure ?_)
    dsimp only
    refine wpAny_bind (seqEpoch_at zx rfl ?_)
    have eo : ((arrOf (SortSt.mk' general' (vs.toArray.zip vs.toArray) #[] 7 none)).map (·.2)) = List.toArray ((List.toArray (List.range vs.length)).toList.map fun i => vs.getD i Value.none) := by
      refine kat_snds (ks := vs) (vs := vs) rfl (p := List.toArray (List.range vs.length)) ?_
      have e : vs.length = (vs.toArray.zip vs.toArray).size := by simp
      rw [e]
      exact (kas_range _).symm
    rw [eo]
    refine wpAny_bind (listUpdate_at zx rfl ?_ (Nat.zero_le _) (by simp only [List.size_toArray, List.length_map, List.length_range, sizeLine_eq]; omega))
    simp only [bne_self_eq_false, Bool.false_eq_true, if_false]
    refine wpAny_pure (fin (List.toArray (List.range vs.length)) ⟨by simp, by simp⟩ fun i j CU hj => ?_)
    have : i = j := by omega
    subst this
    exact oX _
  · rw [if_neg h2, if_neg h2]
    obtain ⟨fs, k1, k2, k3⟩ := oZ (s := { s with heap := hh }) vI
    refine wpAny_bind (kat_kind (T := .type "int") k1 (by omega) (fun v hv => by obtain ⟨m, t, rfl⟩ := k3 v hv; exact Looks.of_pure rfl) (by decide) ?_)
    have Bt : ∀ i, i < vs.length → ∃ r, eY hh (vs.getD i Value.none) (rows.getD i []) ∧ rows.getD i [] ∈ rows ∧ r = rows.getD i [] := fun i hi => by
      have hv : vs[i]? = some (vs.getD i Value.none) := by simp [hi]
      obtain ⟨r, er, Gi⟩ := q9 vI hv
      have e : rows.getD i [] = r := by simp [er]
      exact ⟨_, by rw [e]; exact Gi, by rw [e]; exact List.mem_of_getElem? er, rfl⟩
    refine wpAny_bind (wpAny_mono (kat_run (κ := tuples' true) (ks := vs) (vs := vs) (Q := fun jU s' => ∃ p : Array Nat, Pm vs.length p ∧ ml (fun i => rg rows (rows.getD i [])) p vs.length ∧ arrOf jU = p.map (kas_item (vs.toArray.zip vs.toArray)) ∧ failedOf jU = none ∧ s' = { s with heap := hh })
      rfl (by omega) zv (G := fun p s' => Pm vs.length p ∧ ml (fun i => rg rows (rows.getD i [])) p vs.length ∧ s' = { s with heap := hh }) (fun p' jU s' a1 a2 a3 a4 => ⟨p', a4.1, a4.2.1, a2, a3, a4.2.2⟩) ?_) ?_ fun _ _ e => e)
    · refine tR (I := fun s' => s' = { s with heap := hh }) (R := fun i => rg rows (rows.getD i [])) (n := vs.length) (fun i j C s' hi hj hI hC => ?_) _ _ _ rfl (Eg (by omega) fun p h1 h2 s' gJ => ⟨h1, h2, gJ⟩)
      subst hI
      obtain ⟨_, t1, m1, _⟩ := Bt i hi
      obtain ⟨_, t2, _, _⟩ := Bt j hj
      refine wH (s := { s with heap := hh }) t1 t2 ?_
      rw [← zt m1]
      exact hC _ rfl
    · intro r s' hs
      obtain ⟨_, jU⟩ := r
      obtain ⟨p, hp, hA, K0, hf, rfl⟩ := hs
      dsimp only at K0 hf ⊢
      have Mt := kat_snds (ks := vs) (vs := vs) rfl K0
      refine wpAny_bind (seqEpoch_at zx rfl ?_)
      rw [Mt]
      refine wpAny_bind (listUpdate_at zx rfl ?_ (Nat.zero_le _) (by rw [List.size_toArray, List.length_map, Array.length_toList, hp.sz, sizeLine_eq]; omega))
      rw [hf]
      simp only [bne_self_eq_false, Bool.false_eq_true, if_false]
      refine wpAny_pure (fin p hp fun i j CU hj => ?_)
      have N5 := hp.lt hj
      obtain ⟨_, _, m1, _⟩ := Bt _ N5
      rw [← zt m1]
      have := hA i j CU hj
      refine decide_eq_false ?_
      have this : rg rows (rows.getD (p.getD i 0) []) ≤ rg rows (rows.getD (p.getD j 0) []) := this
      omega
end
noncomputable def jF (rs : List (List Int)) : List (List Int) := rs.mergeSort fun a b => !HT.lexLt b a
theorem o6 (rs : List (List Int)) : (jF rs).Perm rs := List.mergeSort_perm _ _
theorem uQ {a b c : List Int} (h1 : HT.lexLt b a = false) (h2 : HT.lexLt c b = false) : HT.lexLt c a = false := by
  cases h : HT.lexLt c a with
  | false => rfl
  | true =>
    cases h3 : HT.lexLt a b with
    | true => rw [jh h h3] at h2; cases h2
    | false =>
      have := oY h3 h1
      subst this
      rw [h] at h2; cases h2
theorem Bu (rs : List (List Int)) : (jF rs).Pairwise fun a b => HT.lexLt b a = false := by
  have := List.pairwise_mergeSort (le := fun a b => !HT.lexLt b a) (fun a b c h1 h2 => by
    simp only [Bool.not_eq_true'] at *
    exact uQ h1 h2) (fun a b => by
    cases h : HT.lexLt b a with
    | false => rfl
    | true =>
      cases h2 : HT.lexLt a b with
      | false => rfl
      | true => have := jh h h2; rw [oX] at this; cases this) rs
  exact this.imp fun h => by simpa using h
theorem tS {ms rs : List (List Int)} (p : ms.Perm rs) (h : ms.Pairwise fun a b => HT.lexLt b a = false) : ms = jF rs :=
  List.Perm.eq_of_pairwise (le := fun a b => HT.lexLt b a = false) (fun x y _ _ h1 h2 => oY h2 h1) h (Bu rs) (p.trans (o6 rs).symm)
noncomputable def Bv (H : Hp) (v : V) (r : List Int) : Prop := ∃ a, v = .ref a ∧ H a = some (.tup (r.map V.int)) ∧ r ≠ []
noncomputable def Hr (K : PySem.W.Frag) : List V → Hp → VK → Prop := fun xs H Q => ∃ p vs rows, xs = [.ref p] ∧ (H p = some (.lst vs) ∨ H p = some (.tup vs)) ∧ Paired (Bv H) vs rows ∧ vs.length < 64 ∧ ∀ l (is : List Nat), H l = none → (∀ i ∈ is, i < vs.length) → (is.map fun i => rows.getD i []) = jF rows → Q (.ref l) (upd H l (.lst (is.map fun i => vs.getD i .au)))
section
variable {X : Cx} {P : Program} {w : World} {A : Around} {E : Value → Shared → Prop} {s : Shared}
theorem uR {a : Value} {us : List Value} {rows : List (List Int)} {Q : Value → Shared → Prop} (Mu : ∀ QL : List Value → Shared → Prop, (∀ h', (∀ b o, s.heap.get? b = some o → h'.get? b = some o) → QL us { s with heap := h' }) → wpAny (model P w) A.in1 (collect a) QL E s)
    (hr : Paired (fun v r => eY s.heap v r) us rows) (zv : us.length < 64)
    (h : ∀ (h1 h' : Heap) (is : List Nat) e, (∀ i ∈ is, i < us.length) → (is.map fun i => rows.getD i []) = jF rows → (∀ b o, s.heap.get? b = some o → h1.get? b = some o) → (∀ b o, h1.get? b = some o → h'.get? b = some o) → h'.get? h1.objs.size = some { cls := .type "list", data := .seq (is.map fun i => us.getD i Value.none).toArray e } → Q (.ref h1.objs.size) { s with heap := h' }) :
    wpAny (model P w) A (call (.builtin "sorted") [a]) Q E s := by
  refine Calls.call_function_entry kind_sorted plain_sorted entry_sorted (args_sorted1 _) ?_
  unfold Builtin.«sorted»
  refine wpAny_bind (m := checkCount "sorted" 1 1 _) (wpAny_pure ?_)
  refine wpAny_bind (Mu _ fun h' hk => ?_)
  refine wpAny_bind (wpAny_newList ?_ (hsz := Nat.le_trans (Nat.le_of_lt zv) (by decide)))
  have xB : (h'.push (seqObj "list" us.toArray 0)).get? h'.objs.size = some (seqObj "list" us.toArray 0) := Heap.get?_push_size _ rfl
  have vI : Paired (fun v r => eY (h'.push (seqObj "list" us.toArray 0)) v r) us rows := Paired.imp' (fun v r t => by
    obtain ⟨b, o, xs, n, rfl, ho, z⟩ := t
    exact ⟨b, o, xs, n, rfl, Heap.get?_push_of_some _ (hk _ _ ho), z⟩) hr
  have hl := Paired.length hr
  refine wpAny_bind (wpAny_holding (wpAny_call_entry slot_list_sort ⟨_, xB, rfl⟩ entry_list_sort (p8 xB vI zv fun p hp ha => ⟨_, rfl, ?_⟩) (args_list_sort _)))
  refine wpAny_pure ⟨_, rfl, ?_⟩
  obtain ⟨e, he⟩ := sortedHeap_at (out := List.toArray (p.toList.map fun i => us.getD i Value.none)) xB
  refine h h' _ p.toList e (fun i hi => ?_) (tS ?_ ?_) hk (fun b o hb => ?_) he
  · have := hp.pm.mem_iff.mp hi
    exact List.mem_range.mp this
  · have q := hp.pm.map fun i => rows.getD i []
    refine q.trans (List.Perm.of_eq ?_)
    rw [hl]
    refine List.ext_getElem (by simp) fun i h1 h2 => ?_
    simp only [List.getElem_map, List.getElem_range]
    rw [List.getD_eq_getElem?_getD, List.getElem?_eq_getElem h2]
    rfl
  · rw [List.pairwise_iff_getElem]
    intro i j hi hj CU
    simp only [List.length_map, Array.length_toList] at hi hj
    have hsz := hp.sz
    have := ha i j (Nat.le_of_lt CU) (by omega)
    simp only [List.getElem_map, Array.getElem_toList]
    have e1 : p.getD i 0 = p[i] := by simp [Array.getD, hi]
    have e2 : p.getD j 0 = p[j] := by simp [Array.getD, hj]
    rw [e1, e2] at this
    exact this
  · have bu := Heap.lt_size hb
    rw [sortedHeap_old (Nat.ne_of_lt bu) (by rw [Heap.size_push]; exact Nat.lt_succ_of_lt bu)]
    exact Heap.get?_push_of_some _ hb
theorem wI {vs : List V} {us : List Value} (r : Vals vs us) (is : List Nat) (h : ∀ i ∈ is, i < vs.length) : Vals (is.map fun i => vs.getD i .au) (is.map fun i => us.getD i Value.none) := by
  induction is with
  | nil => exact .nil
  | cons i is ih =>
    refine .cons ?_ (ih fun j hj => h j (List.mem_cons_of_mem _ hj))
    have hi := h i (List.mem_cons_self ..)
    have e : vs[i]? = some (vs.getD i .au) := by simp [hi]
    have hl := r.length
    have e2 : us[i]? = some (us.getD i Value.none) := by simp [show i < us.length by omega]
    obtain ⟨u, e3, q⟩ := r.get e
    rw [e2] at e3
    cases e3
    exact q
theorem wJ {K : PySem.W.Frag} (hK : X.K = K) : cP X (.builtin "sorted") (Hr K) := by
  subst hK
  intro pins s σ H xs us Q I r h
  obtain ⟨p, vs, rows, rfl, hq, hr, zv, q⟩ := h
  obtain ⟨u, rfl, rx⟩ := vals1 r
  cases rx
  have hsz : sizeLine = 16777216 := sizeLine_eq
  have tr : ∀ {vs : List V} {its : List Value} {rows : List (List Int)}, Vals vs its → Paired (Bv H) vs rows → Paired (fun v r => eY s.heap v r) its rows := by
    intro vs
    induction vs with
    | nil => intro its rows rv hr; cases rv; cases hr; exact .nil
    | cons v vs ih =>
      intro its rows rv hr
      cases rv with
      | cons r1 Hm =>
      obtain ⟨rr, JL, rfl, hv, ht⟩ := hV hr
      obtain ⟨a, rfl, ha, fY⟩ := hv
      cases r1
      obtain ⟨ts, rt, ⟨o, ho, d9, n, hd⟩, _⟩ := I.tuple (.inl (.inl ha))
      exact .cons ⟨a, o, _, n, rfl, ho, d9, hd, Cq rt, fY⟩ (ih Hm ht)
  obtain ⟨its, rv, JM⟩ : ∃ its : List Value, Vals vs its ∧ ∀ QL : List Value → Shared → Prop, (∀ h', (∀ b o, s.heap.get? b = some o → h'.get? b = some o) → QL its { s with heap := h' }) → wpAny (model X.prog X.w) X.A.in1 (collect (.ref p)) QL X.xe s := by
    rcases hq with hq | hq
    · obtain ⟨its, rv, pl, hz⟩ := I.list (.inl (.inl hq))
      have hl := rv.length
      obtain ⟨o, ho, d9, n, hd⟩ := pl.isList
      exact ⟨its, rv, fun QL Hs => ng ho d9 hd (.inl rfl) (fun h' k => Hs h' k) (by omega)⟩
    · obtain ⟨its, rv, pl, hz⟩ := I.tuple (.inl (.inl hq))
      have hl := rv.length
      obtain ⟨o, ho, d9, n, hd⟩ := pl
      exact ⟨its, rv, fun QL Hs => ng ho d9 hd (.inr rfl) (fun h' k => Hs h' k) (by omega)⟩
  have hl := rv.length
  refine uR JM (tr rv hr) (by omega) (fun h1 h' is e hi hs k1 k2 he => ?_)
  have I1 : Inv X pins σ H { s with heap := h1 } := (I.kept (t' := s.toks) k1).nL ⟨rfl, rfl, I.bare.self⟩
  have c9 : ∀ i ∈ is, i < vs.length := fun i h => by have := hi i h; omega
  have OZ : is.length = rows.length := by
    have := congrArg List.length hs
    rw [List.length_map, (o6 rows).length_eq] at this
    exact this
  have O1 := Paired.length hr
  have ob : ObjOk X.prog X.w (upd H h1.objs.size (.lst (is.map fun i => vs.getD i .au))) h' h1.objs.size (.lst (is.map fun i => vs.getD i .au)) := ⟨by rw [List.length_map]; omega, _, e, wI rv is c9, he⟩
  exact ⟨.ref h1.objs.size, _, I1.laid (t' := s.toks) k2 (Nat.le_refl _) ob, rfl, q _ is (I1.hok.fresh (Nat.le_refl _)) c9 hs⟩
end
noncomputable def rowD? : Dv → Option (List Int)
  | .tup ds => jA ds
  | _ => none
noncomputable def jG : List Dv → Option (List (List Int))
  | [] => some []
  | d :: ds => (rowD? d).bind fun r => (jG ds).map (r :: ·)
theorem rj : ∀ rs : List (List Int), jG (rs.map eI) = some rs
  | [] => rfl
  | r :: rs => by simp [jG, rowD?, qV, rj rs]
theorem tT : ∀ {ds : List Dv} {rs : List (List Int)}, jG ds = some rs → ds = rs.map eI
  | [], rs, h => by simp only [jG, Option.some.injEq] at h; subst h; rfl
  | d :: ds, rs, h => by
    simp only [jG, Option.bind_eq_some_iff, Option.map_eq_some_iff] at h
    obtain ⟨r, hr, O2, h, rfl⟩ := h
    cases d with
    | tup es => rw [tT h, tD (ns := r) hr]; rfl
    | _ => simp [rowD?] at hr
noncomputable def zSortT (d : Dv) (M : Mh) (Q : ZK) : Prop := match (itemsM M d).bind jG with | some rs => rs.length < 64 ∧ (∀ r ∈ rs, r ≠ []) ∧ Q (.lst ((jF rs).map eI)) M | none => False
theorem vJ {β : Bz} {M : Mh} {H : Hp} : ∀ {vs : List V} {rs : List (List Int)}, aI β M H vs (rs.map eI) → (∀ r ∈ rs, r ≠ []) → Paired (Bv H) vs rs
  | [], [], _, _ => .nil
  | [], _ :: _, r, _ => absurd r.len (by simp)
  | _ :: _, [], r, _ => absurd r.len (by simp)
  | v :: vs, x :: rs, r, h => by
    rw [List.map_cons] at r
    obtain ⟨a, us, rfl, _, ha, hu⟩ := bX r.head
    have := nQ hu
    subst this
    exact .cons ⟨a, rfl, ha, h x (List.mem_cons_self ..)⟩ (vJ r.tail fun y hy => h y (List.mem_cons_of_mem _ hy))
theorem tU {β : Bz} {M : Mh} {H : Hp} {vs : List V} {rs : List (List Int)} (h : aI β M H vs (rs.map eI)) : ∀ is : List Nat, (∀ i ∈ is, i < vs.length) → aI β M H (is.map fun i => vs.getD i .au) ((is.map fun i => rs.getD i []).map eI)
  | [], _ => .nil
  | i :: is, hi => by
    have h1 := hi i (List.mem_cons_self ..)
    have hl := h.len
    rw [List.length_map] at hl
    refine .cons (h.at' i _ _ (by simp [h1]) ?_) (tU h is fun j hj => hi j (List.mem_cons_of_mem _ hj))
    simp [show i < rs.length by omega]
theorem Eh {Γ : Gz} {X : Cx} {K : PySem.W.Frag} (hK : X.K = K) : fH Γ X (.builtin "sorted") (z1 zSortT) := ⟨_, wJ hK, fun β xs ds M H Q Q' eP ew _ m rs z q => by
  unfold z1 at z
  split at z
  · rename_i d
    obtain ⟨x, rfl, r⟩ := dw rs
    unfold zSortT at z
    split at z
    · rename_i rows JN
      obtain ⟨ds, e1, e2⟩ := Option.bind_eq_some_iff.mp JN
      obtain ⟨a, vs, rfl, ha, cf⟩ := gS m r e1
      have := tT e2
      subst this
      have K1 := cf.len
      rw [List.length_map] at K1
      refine ⟨a, vs, rows, rfl, ha, vJ cf z.2.1, by rw [K1]; exact z.1, fun l is hl hi hs => ?_⟩
      have x2 := Ex.lay m hl (.lst (is.map fun i => vs.getD i .au))
      refine q _ _ _ _ x2 (oI (m.fz hl) aM ((?_ : aI β M H _ _).ex x2)) z.2.2
      rw [← hs]
      exact tU cf is hi
    · exact z.elim
  · exact z.elim⟩
end L2
namespace L2
open PySem PySem.Spec PyProof.Rows
noncomputable abbrev TB := St → Hp → (St → Hp → Prop) → Prop
noncomputable def PB (X : Cx) (b : Sem Unit) (t : TB) : Prop := ∀ (pins : List (Addr × Obj)) (s : Shared) (σ : St) (H : Hp) (Q : St → Hp → Prop), Inv X pins σ H s → t σ H Q → wpAny (model X.prog X.w) X.A b (fun _ s' => ∃ aK H', Inv X pins aK H' s' ∧ Q aK H') X.xe s
noncomputable def tLoop (J : It) (g : TG) (tt : TT) (tb : TB) (QE : St → Hp → Prop) (W : Nat → Nat → St → Hp → Prop) : Prop := ∀ i m τ H, W i m τ H →
  (J.stop i H ∧ QE τ H) ∨ (J.go i H ∧ ∀ x H', J.yld i H x H' → g x τ H' fun ay H2 => tt ay H2 fun b H3 => if b = true then tb ay H3 fun Ht H4 => ∃ m', m' < m ∧ W (i + 1) m' Ht H4 else ∃ m', m' < m ∧ W (i + 1) m' ay H3)
noncomputable def o7 (e cn : Expr) (d : Nat) (acc : Value) (env : Env) : Sem Unit := do
  let x ← eval cn env
  standAt cn.pos
  let x ← foldedSetIterable cn env x
  let it ← holding [x] (pyIter x)
  let _ ← runOwn (.compStart e d it acc env) env
noncomputable def turnB (e tg iter : Expr) (ifs : List Expr) (d : Nat) (it acc : Value) (env : Env) (body : Sem Unit) : Sem Fin := do
  standAt iter.pos
  match ← pyNext it with
  | none => pure (.done .next)
  | some v =>
    letOwnedTupleGo tg it v
    assign tg env v
    let mut ok := true
    for c in ifs do
      if ok then ok ← isTrue c env (eval c env)
    if ok then body
    again (.compLoop e d it acc env)
theorem Bw (elt tg iter iF cn : Expr) (ifs gB : List Expr) (scope : Scope) (pos : Pos) (it acc : Value) (env : Env) :
    compTurn (.ListComp elt [⟨tg, iter, ifs, 0⟩, ⟨iF, cn, gB, 0⟩] scope pos) 0 it acc env =
      turnB (.ListComp elt [⟨tg, iter, ifs, 0⟩, ⟨iF, cn, gB, 0⟩] scope pos) tg iter ifs 0 it acc env (o7 (.ListComp elt [⟨tg, iter, ifs, 0⟩, ⟨iF, cn, gB, 0⟩] scope pos) cn 1 acc env) := by
  unfold turnB o7
  simp only [bind_assoc]
  rfl
theorem zy (elt tg iter iF cn : Expr) (ifs gB : List Expr) (scope : Scope) (pos : Pos) (it acc : Value) (env : Env) :
    compTurn (.ListComp elt [⟨tg, iter, ifs, 0⟩, ⟨iF, cn, gB, 0⟩] scope pos) 1 it acc env =
      turnB (.ListComp elt [⟨tg, iter, ifs, 0⟩, ⟨iF, cn, gB, 0⟩] scope pos) iF cn gB 1 it acc env (do let _ ← call (.builtin "list.append") [acc, ← eval elt env]) := by
  rfl
theorem rl (k v tg iter : Expr) (ifs : List Expr) (scope : Scope) (pos : Pos) (it : Value) (D : Addr) (env : Env) :
    compTurn (.DictComp k v [⟨tg, iter, ifs, 0⟩] scope pos) 0 it (.ref D) env =
      turnB (.DictComp k v [⟨tg, iter, ifs, 0⟩] scope pos) tg iter ifs 0 it (.ref D) env (do
        let kv ← eval k env
        let vv ← holding [kv] (eval v env)
        standAt { k.pos with endLine := v.pos.endLine, endCol := v.pos.endCol }
        holding [kv, vv] (dictSet D kv vv)) := by
  rfl
section
variable {Y : Cx} {e tg iter : Expr} {ifs : List Expr} {dp : Nat} {it : Addr} {acc : Value} {body : Sem Unit} {fp : List Addr} {bR : Nat → Heap → Prop} {J : It} {g : TG} {tt : TT} {tb : TB} {QE : St → Hp → Prop} {W : Nat → Nat → St → Hp → Prop} {R : Result → Shared → Prop} {pins : List (Addr × Obj)} {τ : St} {H : Hp} {s : Shared} {m0 : Nat}
structure wK (Y : Cx) (e tg iter : Expr) (ifs : List Expr) (dp : Nat) (acc : Value) (body : Sem Unit) : Prop where
  q : ∀ it, (Code.compLoop e dp it acc Y.env).quiet = true
  den : ∀ it Q E s, wpAny (model Y.prog Y.w) Y.A ((compTurn e dp it acc Y.env).onRaise (fun x => do noteFrame x Y.env; theTreesLotGoes x)) Q E s → wpAny (model Y.prog Y.w) (Y.A.under (.compLoop e dp it acc Y.env)) ((model Y.prog Y.w).den (.compLoop e dp it acc Y.env)) Q E s
  turn : ∀ it, compTurn e dp it acc Y.env = turnB e tg iter ifs dp it acc Y.env body
  denS : ∀ it Q E s, wpAny (model Y.prog Y.w) Y.A ((compStart e dp it acc Y.env).onRaise (fun x => do noteFrame x Y.env; standAt theWindowsPlace)) Q E s → wpAny (model Y.prog Y.w) (Y.A.under (.compStart e dp it acc Y.env)) ((model Y.prog Y.w).den (.compStart e dp it acc Y.env)) Q E s
  cl : (clausesOf e)[dp]? = some ⟨tg, iter, ifs, 0⟩
theorem rn (hc : Y.calm = true) (oE : ∀ x s, Y.xe x s → False) (C : wK Y e tg iter ifs dp acc body) (hg : PG Y tg g) (ht : fX Y ifs tt) (hb : PB Y body tb) (T : Turn Y.prog Y.w Y.K tg J fp it bR) (turn : tLoop J g tt tb QE W)
    (I : Inv Y pins τ H s) (st : bR 0 s.heap) (f : ∀ b ∈ fp, cM Y pins H b) (w0 : W 0 m0 τ H) (hR : ∀ aR H' s', Inv Y pins aR H' s' → QE aR H' → R (.ok .next) s') :
    codeAny (model Y.prog Y.w) Y.A (.compLoop e dp (.ref it) acc Y.env) R s := by
  have stat : ∀ {H' : Hp}, (∀ b ∈ fp, H' b = none) → ∀ b ∈ fp, cM Y pins H' b := fun hn b hb => ⟨hn b hb, (f b hb).2⟩
  refine codeAny_loop (C.q _) (fun n s' => ∃ i τ H', Inv Y pins τ H' s' ∧ bR i s'.heap ∧ (∀ b ∈ fp, H' b = none) ∧ W i n τ H') (fun n s hI => ?_) m0 ⟨0, τ, H, I, st, fun b hb => (f b hb).1, w0⟩
  refine C.den _ _ _ _ (wpAny_noted ?_)
  rw [C.turn]
  unfold turnB
  obtain ⟨i, τ, H3, I3, jr, lx, w3⟩ := hI
  rcases turn i n τ H3 w3 with ⟨stop, qn⟩ | ⟨go, step⟩
  · refine wpAny_bind (wpAny_standAt (wpAny_bind (wpAny_mono (T.done Y rfl rfl rfl hc i pins s τ H3 (fun _ _ => False) I3 (stat lx) jr stop) (fun r s4 ⟨hr, I4⟩ => ?_) fun _ _ z => z.elim)))
    subst hr
    exact wpAny_pure (hR _ _ _ I4 qn)
  · refine wpAny_bind (wpAny_standAt (wpAny_bind (wpAny_mono (T.item Y rfl rfl rfl hc i pins s τ H3 (fun _ _ => False) I3 (stat lx) jr go) (fun r s4 ⟨u, hr, h4⟩ => ?_) fun _ _ z => z.elim)))
    subst hr
    refine wpAny_bind (wpAny_mono h4 (fun _ s5 ⟨x, H5, I5, r5, y5, gf, oq⟩ => ?_) fun _ _ z => z.elim)
    have ot := I5.pinned (stat oq) (T.obj _ _ gf)
    have again : ∀ {ik : St} {H7 : Hp} {s7 : Shared}, Inv Y (pins ++ ie fp s5.heap) ik H7 s7 → (∃ m', m' < n ∧ W (i + 1) m' ik H7) →
        ∃ m, m < n ∧ ∃ i τ H', Inv Y pins τ H' s7 ∧ bR i s7.heap ∧ (∀ b ∈ fp, H' b = none) ∧ W i m τ H' := fun {ik H7 s7} I7 n7 => by
      obtain ⟨m', hm, w7⟩ := n7
      refine ⟨m', hm, i + 1, ik, H7, I7.ei, T.keep _ _ _ gf fun b hb o e => (I7.pin (b, o) (List.mem_append_right _ (List.mem_append_right _ (cA hb e)))).1, fun b hb => ?_, w7⟩
      obtain ⟨o, e, d⟩ := T.obj _ _ gf b hb
      exact (I7.pin (b, o) (List.mem_append_right _ (List.mem_append_right _ (cA hb e)))).2.1
    refine wpAny_bind (wpAny_mono (hg _ s5 τ H5 x u _ ot r5 (step x H5 y5)) (fun _ s6 ⟨iD, H6, I6, q6⟩ => ?_) fun _ _ z => (oE _ _ z).elim)
    refine wpAny_bind (wpAny_mono (ht _ s6 iD H6 _ I6 q6) (fun ok s7 ⟨H7, I7, q7⟩ => ?_) fun _ _ z => (oE _ _ z).elim)
    cases ok with
    | false => exact wpAny_pure ⟨rfl, again I7 q7⟩
    | true =>
      refine wpAny_bind (wpAny_mono (hb _ s7 iD H7 _ I7 q7) (fun _ s8 ⟨O3, H8, I8, q8⟩ => ?_) fun _ _ z => (oE _ _ z).elim)
      exact wpAny_pure ⟨rfl, again I8 q8⟩
theorem o8 (C : wK Y e tg iter ifs dp acc body) (T : Turn Y.prog Y.w Y.K tg J fp it bR) (st : bR 0 s.heap)
    (h : codeAny (model Y.prog Y.w) Y.A (.compLoop e dp (.ref it) acc Y.env) R s) : codeAny (model Y.prog Y.w) Y.A (.compStart e dp (.ref it) acc Y.env) R s := by
  refine codeAny_of_tree (C.denS _ _ _ _ (wpAny_notedAt ?_))
  unfold compStart
  rw [C.cl]
  show wpAny _ _ (ask >>= _) _ _ s
  refine wpAny_bind (wpAny_askSetting (wpAny_ite ?_))
  split
  · first
      | exact wpAny_bind (wpAny_pure (wpAny_pure (And.intro rfl h)))
      | exact wpAny_pure (And.intro rfl h)
  · have h2 : wpAny (model Y.prog Y.w) Y.A (pyIter (.ref it)) (fun zz s' => codeAny (model Y.prog Y.w) Y.A (.compLoop e dp zz acc Y.env) R s') (notedBy (model Y.prog Y.w) Y.A Y.env fun x s' => R (.error x) s') s := T.self _ 0 _ _ _ st h
    first
      | exact wpAny_bind (wpAny_rule (wpAny_bind (wpAny_standAt (wpAny_bind (wpAny_mono h2 (fun zz s' h' => wpAny_pure (And.intro (C.q zz) h')) fun _ _ x => x)))))
      | (refine wpAny_bind (wpAny_rule ?_); show wpAny _ _ (standAt iter.pos >>= _) _ _ s; exact wpAny_bind (wpAny_standAt (wpAny_bind (wpAny_mono h2 (fun zz s' h' => wpAny_pure (And.intro (C.q zz) h')) fun _ _ x => x))))
end
section
variable {Y : Cx}
noncomputable def o9 (D : Addr) (te : TE) : TB := fun τ H Q => te τ H fun y H4 => ∃ ys, H4 D = some (.lst ys) ∧ ys.length < sizeLine ∧ Q τ (upd H4 D (.lst (ys ++ [y])))
theorem Ei {elt : Expr} {te : TE} {D : Addr} (h : PE Y elt te) : PB Y (do let _ ← call (.builtin "list.append") [.ref D, ← eval elt Y.env]) (o9 D te) := by
  intro pins s τ H Q I q
  refine wpAny_bind (wpAny_mono (h pins s τ H _ I q) (fun yv s8 ⟨y, H8, I8, r8, q8⟩ => ?_) fun _ _ z => z)
  obtain ⟨ys, hD, hsz, w8⟩ := q8
  refine wpAny_bind (wpAny_mono (jt (X := Y) _ s8 τ H8 (.ref D) [y] (.ref D) [yv] (fun v H9 => v = .au ∧ H9 = upd H8 D (.lst (ys ++ [y]))) I8 rfl (.cons r8 .nil) ⟨_, ys, y, rfl, rfl, hD, hsz, rfl, rfl⟩) (fun rv s9 ⟨v9, H9, I9, _, _, e9⟩ => ?_) fun _ _ z => z)
  subst e9
  exact wpAny_pure ⟨τ, _, I9, w8⟩
noncomputable def pf (wi : TI) (g : TG) (tt : TT) (tb : TB) : TB := fun τ H Q => wi τ H fun J H1 => ∃ W : Nat → Nat → St → Hp → Prop, (∃ m, W 0 m τ H1) ∧ tLoop J g tt tb Q W
theorem Ej {e tg iter : Expr} {ifs : List Expr} {dp : Nat} {acc : Value} {body : Sem Unit} {wi : TI} {g : TG} {tt : TT} {tb : TB} (hc : Y.calm = true) (oE : ∀ x s, Y.xe x s → False) (C : wK Y e tg iter ifs dp acc body)
    (hi : PI Y tg iter wi) (hg : PG Y tg g) (ht : fX Y ifs tt) (hb : PB Y body tb) (hs : ∀ x, foldedSetIterable iter Y.env x = pure x) : PB Y (o7 e iter dp acc Y.env) (pf wi g tt tb) := by
  intro pins s τ H Q I q
  unfold o7
  refine wpAny_bind (wpAny_mono (hi pins s τ H _ I q) (fun xv s1 h1 => ?_) fun _ _ z => z)
  refine wpAny_bind (wpAny_standAt (wpAny_bind (wpAny_of_eq (hs xv) (wpAny_bind (wpAny_holding (wpAny_mono h1 (fun m5 s2 h2 => ?_) fun _ _ z => z))))))
  obtain ⟨it, fp, bR, J, H2, e2, I2, T, gH, f2, W, ⟨m0, w0⟩, turn⟩ := h2
  subst e2
  refine wpAny_bind (wpAny_runOwn (h := none) ?_)
  exact o8 C T gH (rn hc oE C hg ht hb T turn I2 gH f2 w0 fun aR H' s' I' q' => wpAny_pure ⟨aR, H', I', q'⟩)
end
section
variable {X : Cx}
theorem kO {pins : List (Addr × Obj)} {σ : St} {H2 : Hp} {s2 : Shared} {e tg iter : Expr} {ifs : List Expr} {scope : Scope} {N' : List Str} {tn : Nat} {idx : List Nat} {g : TG} {tt : TT} {tb : Addr → TB} {body : Value → Env → Sem Unit} {it : Addr} {fp : List Addr} {bR : Nat → Heap → Prop} {J : It}
    {cl : List (Str × Addr)} {E : Value → Shared → Prop} {RR : Value → Addr → Result → Shared → Prop} {Q : VK} {mk : Sem Value} {O0 : HO} {o0 : Obj}
    (N6 : ∀ (Q : Value → Shared → Prop), Q (.ref s2.heap.objs.size) { s2 with heap := s2.heap.push o0 } → wpAny (model X.prog X.w) X.A mk Q E s2) (Ge : o0.isFreed = false)
    (N7 : ∀ (H : Hp) (h1 : Heap), h1.get? s2.heap.objs.size = some o0 → ObjOk X.prog X.w H h1 s2.heap.objs.size O0)
    (hc : X.calm = true) (B : aB X.N X.env.scope scope N' tn idx)
    (hC : ∀ (D : Addr), Blk X N' scope fun Y => wK Y e tg iter ifs 0 (.ref D) (body (.ref D) Y.env))
    (hg : Blk X N' scope fun Y => PG Y tg g) (ht : Blk X N' scope fun Y => fX Y ifs tt) (hb : ∀ D, Blk X N' scope fun Y => PB Y (body (.ref D) Y.env) (tb D))
    (I : Inv X pins σ H2 s2) (T : Turn X.prog X.w X.K tg J fp it bR) (st : bR 0 s2.heap) (f2 : ∀ b ∈ fp, cM X pins H2 b)
    (cG : ∀ n c, cl.lookup n = some c → X.env.cells.lookup n = some c) (ez : ∀ n, (n, NameKind.free) ∈ scope.names → ∃ c, cl.lookup n = some c)
    (hq : ∀ D, H2 D = none → ∃ W : Nat → Nat → St → Hp → Prop, (∃ m, W 0 m (bj tn idx σ) (upd H2 D O0)) ∧ tLoop J g tt (tb D) (fun _ H' => Q (.ref D) H') W)
    (yc : ∀ D C m s' H', Inv X pins σ H' s' → cM X pins H' C → s'.heap.Ns C m → Q (.ref D) H' → RR (.ref D) C (.ok .next) s') :
    wpAny (model X.prog X.w) X.A mk (fun acc fu => wpAny (model X.prog X.w) X.A (newFunctionEnv scope X.env.globals cl [] X.env.qual none .none (some X.env)) (fun lF sA =>
      codeAny (model X.prog X.w) X.A (.compStart e 0 (.ref it) acc { lF with scope := relabel scope X.env }) (RR acc lF.locals) sA) E fu) E s2 := by
  obtain ⟨b1, b2, b3, b4⟩ := id B
  refine N6 _ (wpAny_newFunctionEnv (fun y hy => (b2 y hy).1) (by intro y hy; simp at hy) (fun dn gi gj => ?_) b1)
  dsimp only at gi gj ⊢
  generalize hG : s2.heap.push o0 = G at gi gj ⊢
  have Hu : G.objs.size = s2.heap.objs.size + 1 := by rw [← hG, Heap.size_push]
  have sC : s2.heap.objs.size ≠ G.objs.size := by rw [Hu]; exact Nat.ne_of_lt (Nat.lt_succ_self _)
  have gO : s2.heap.objs.size ≤ G.objs.size := by rw [Hu]; exact Nat.le_succ _
  have below : ∀ b, b < s2.heap.objs.size → b ≠ G.objs.size := fun b hb => by rw [Hu]; exact Nat.ne_of_lt (Nat.lt_succ_of_lt hb)
  have old : ∀ b o, s2.heap.get? b = some o → dn.get? b = some o := fun b o e => gj.extBut b o (below b (Heap.lt_size e)) (Heap.get?_push_of_some _ (hG ▸ Heap.get?_push_of_some _ e))
  have ye : dn.get? s2.heap.objs.size = some o0 := gj.extBut _ _ sC (Heap.get?_push_of_some _ (hG ▸ Heap.get?_push_size _ Ge))
  have qI : H2 s2.heap.objs.size = none := I.hok.fresh (Nat.le_refl _)
  have oy : upd H2 s2.heap.objs.size O0 G.objs.size = none := by rw [ai (Ne.symm sC)]; exact I.hok.fresh gO
  have sD : cw X.prog X.w (upd H2 s2.heap.objs.size O0) dn := I.hok.laid old (Nat.le_refl _) (N7 _ _ ye)
  have iC : ∀ b ∈ fp, b < s2.heap.objs.size := fun b hb => let ⟨o, e, _⟩ := T.obj _ _ st b hb; Heap.lt_size e
  obtain ⟨W, ⟨m0, w0⟩, turn⟩ := hq s2.heap.objs.size qI
  have I1 : Inv (jv X N' scope cl G.objs.size s2 H2 fp) [] (bj tn idx σ) (upd H2 s2.heap.objs.size O0) { s2 with heap := dn, toks := s2.toks + ([] : List (Str × Value)).length } := by
    refine lD (g' := s2.gens) (m0 := fun x => ([] : List (Str × Value)).reverse.lookup x) I b1 rfl rfl cG (fun x hx => ?_) (fun z => I.ok.hd z) I.ok.frames (.inl rfl) gO f2 iC (Un.laid old (Nat.le_refl _) qI) sD oy old gi (fun i x v e1 e2 e3 => ?_) (B.len σ) I.bare.self
    · have gI : (relabel scope X.env).names.lookup x = some .cell ∨ (relabel scope X.env).names.lookup x = some .free := hx
      rw [c7] at gI
      cases q : scope.names.lookup x with
      | none => rw [q] at gI; rcases gI with z | z <;> cases z
      | some k0 =>
        have hm := PySem.mem_of_lookup q
        rw [q] at gI
        by_cases hk : k0 = .free
        · subst hk; exact ez x hm
        · have nk : (k0 == NameKind.free) = false := by simpa using hk
          have nc := (b2 _ hm).1
          simp only [Option.map_some, nk, Bool.false_and, Bool.false_eq_true, if_false] at gI
          rcases gI with z | z
          · exact absurd (Option.some.inj z) nc
          · exact absurd (Option.some.inj z) hk
    · obtain ⟨fr, j, e4, e5⟩ := B.at e1 e2
      have kx := (b2 _ (PySem.mem_of_lookup fr)).2.2 rfl
      refine ⟨?_, .inr kx, kx, j, e4, e5⟩
      show (relabel scope X.env).names.lookup x = some .cell ∨ (relabel scope X.env).names.lookup x = some .free
      rw [c7, fr]
      simp only [Option.map_some]
      split
      · exact .inl rfl
      · exact .inr rfl
  have stat : ∀ b ∈ fp, cM (jv X N' scope cl G.objs.size s2 H2 fp) [] (upd H2 s2.heap.objs.size O0) b := fun b hb => by
    refine ⟨by rw [ai (Nat.ne_of_lt (iC b hb))]; exact (f2 b hb).1, below b (iC b hb), fun z => ?_, .inl hb, fun x c e => (f2 b hb).2.2.2.2.1 x c (cG x c e), fun p hp => absurd (show p ∈ ([] : List (Addr × Obj)) from hp) (by simp)⟩
    rcases List.mem_cons.mp (I.fw b z) with q | q
    · exact (f2 b hb).2.1 q
    · exact (f2 b hb).2.2.1 q
  have K2 : bR 0 dn := T.keep _ _ _ st fun b _ o e => old b o e
  refine o8 (Y := jv X N' scope cl G.objs.size s2 H2 fp) (hC _ cl G.objs.size s2 H2 fp) T K2 (rn (Y := jv X N' scope cl G.objs.size s2 H2 fp) hc (fun _ _ z => z) (hC _ cl G.objs.size s2 H2 fp) (hg cl G.objs.size s2 H2 fp) (ht cl G.objs.size s2 H2 fp) (hb _ cl G.objs.size s2 H2 fp) T turn I1 K2 stat w0 fun aR H' s' I4 qn => ?_)
  have J2 : Inv X pins σ H' s' := I.oh I4.os I4.base I4.hok I4.bare fun b hb => ⟨(f2 b hb).2.2.2.1, (f2 b hb).2.1, (f2 b hb).2.2.2.2.1, (f2 b hb).2.2.2.2.2⟩
  obtain ⟨mm, hm, _⟩ := I4.loc
  exact yc _ _ mm s' H' J2 (I.jP gO I4.free) hm qn
end
section
variable {X : Cx} {pins : List (Addr × Obj)} {σ : St} {H : Hp} {s : Shared} {a : Addr} {y v : V} {u r : Value} {A : Around} {E : Value → Shared → Prop}
theorem zA {H' : Hp} {Q : Unit → Shared → Prop} (hu : A.units + 1 < cLine) (I : Inv X pins σ H s) (g : wq H a y v H') (ry : RelV y u) (rv : RelV v r) (h : ∀ s', Inv X pins σ H' s' → Q () s') :
    wpAny (model X.prog X.w) A (dictSet a u r) Q E s := by
  rcases g with ⟨aq, k, e, ey, l, eH⟩ | ⟨aq, k, b, e, ey, eb, l, eH⟩
  · subst ey eH
    obtain ⟨z, hd, vs, rel, dd⟩ := CG I.hok e
    have hz : vs.length ≤ sizeLine := by rw [← rel.length]; exact z
    have hl : (putK aq k v).length ≤ sizeLine := by have := fB aq k v; omega
    refine wpAny_dictSet_pairs (hsz := hz) (kn ry) dd fun h' jZ hs => h _ ?_
    have he : ∃ q, h'.get? a = some q := let ⟨q, _, _, hq, _⟩ := jZ; ⟨q, hq⟩
    exact iQ I (by rw [e]; exact True.intro) hs he (yE hl hd (rel.put k rv) jZ)
  · subst ey eH
    cases (show u = Value.ref b from ry)
    obtain ⟨z, hd, xs, rel, dd⟩ := rQ I.hok e
    have hz : xs.length ≤ sizeLine := by rw [← Paired.length rel]; exact z
    have hl : (putK aq k v).length ≤ sizeLine := by have := fB aq k v; omega
    refine wpAny_dictSet_heap (hsz := hz) (show (tupleKind (bA X.prog X.w)).room A from Nat.lt_of_succ_lt hu) (gu I.hok eb) dd fun h' jZ hs => h _ ?_
    obtain ⟨q, es, ep, hq, h2, h3, h4, _, h5⟩ := jZ
    refine iQ I (by rw [e]; exact True.intro) hs ⟨q, hq⟩ ⟨hl, hd, _, (rel.put k eb rv).keeps fun c ys ec => ?_, q, es, ep, hq, h2, h3, h4, h5⟩
    rw [ai (og ec e (fun z => nomatch z))]
    exact ec
end
section
variable {X : Cx}
noncomputable def rT (k v : Expr) (D : Addr) (env : Env) : Sem Unit := do
  let kv ← eval k env
  let vv ← holding [kv] (eval v env)
  standAt { k.pos with endLine := v.pos.endLine, endCol := v.pos.endCol }
  holding [kv, vv] (dictSet D kv vv)
noncomputable def rU (D : Addr) (tk tv : TE) : TB := fun τ H Q => tk τ H fun y H1 => tv τ H1 fun v H2 => ∃ H3, wq H2 D y v H3 ∧ Q τ H3
theorem zB {Y : Cx} {k v : Expr} {tk tv : TE} {D : Addr} (hu : Y.A.units + 1 < cLine) (hk : PE Y k tk) (hv : PE Y v tv) : PB Y (rT k v D Y.env) (rU D tk tv) := by
  intro pins s τ H Q I q
  unfold rT
  refine wpAny_bind (wpAny_mono (hk pins s τ H _ I q) (fun kv s1 ⟨y, H1, I1, r1, q1⟩ => ?_) fun _ _ z => z)
  refine wpAny_bind (wpAny_holding (wpAny_mono (hv pins s1 τ H1 _ I1 q1) (fun vv s2 ⟨x, H2, I2, r2, q2⟩ => ?_) fun _ _ z => z))
  obtain ⟨H3, g, q3⟩ := q2
  exact wpAny_bind (wpAny_standAt (wpAny_holding (zA hu I2 g r1 r2 fun s' I3 => ⟨τ, H3, I3, q3⟩)))
noncomputable def vK (tn : Nat) (idx : List Nat) (wi : TI) (g : TG) (tt : TT) (zD : TI) (g2 : TG) (lr : TT) (te : TE) : TE := fun σ H Q => wi σ H fun J H1 => ∀ D, H1 D = none → ∃ W : Nat → Nat → St → Hp → Prop, (∃ m, W 0 m (bj tn idx σ) (upd H1 D (.lst []))) ∧
  tLoop J g tt (pf zD g2 lr (o9 D te)) (fun _ H' => Q (.ref D) H') W
noncomputable def tV (tup : Bool) (tn : Nat) (idx : List Nat) (wi : TI) (g : TG) (tt : TT) (tk tv : TE) : TE := fun σ H Q => wi σ H fun J H1 => ∀ D, H1 D = none → ∃ W : Nat → Nat → St → Hp → Prop, (∃ m, W 0 m (bj tn idx σ) (upd H1 D (if tup = true then .dT [] else .dK []))) ∧
  tLoop J g tt (rU D tk tv) (fun _ H' => Q (.ref D) H') W
variable {tg elt iter iF cn k v : Expr} {ifs gB : List Expr} {scope : Scope} {pos : Pos} {N' : List Str} {tn : Nat} {idx : List Nat} {wi zD : TI} {g g2 : TG} {tt lr : TT} {te tk tv : TE}
theorem tW (hc : X.calm = true) (B : aB X.N X.env.scope scope N' tn idx) (hi : PI X tg iter wi)
    (hg : Blk X N' scope fun Y => PG Y tg g) (ht : Blk X N' scope fun Y => fX Y ifs tt) (jY : Blk X N' scope fun Y => PI Y iF cn zD) (Hv : Blk X N' scope fun Y => PG Y iF g2) (Hw : Blk X N' scope fun Y => fX Y gB lr) (he : Blk X N' scope fun Y => PE Y elt te)
    (hs : ∀ x, foldedSetIterable iter X.env x = pure x := by intro _; rfl) (iV : ∀ env x, foldedSetIterable cn env x = pure x := by intro _ _; rfl) : PE X (.ListComp elt [⟨tg, iter, ifs, 0⟩, ⟨iF, cn, gB, 0⟩] scope pos) (vK tn idx wi g tt zD g2 lr te) := by
  refine ⟨?_⟩
  intro pins s σ H Q I h
  obtain ⟨cl, fb, cG, ez⟩ := eu (scope := scope) (env := X.env) fun n hn => I.ok.has n ((B.2.1 _ hn).2.2 rfl)
  rw [eval_ListComp]
  refine wpAny_comprehension_free (use := none) rfl hs fb B.1 (fun y hy => (B.2.1 y hy).2.1) (wpAny_mono (hi pins s σ H _ I h) (fun xv s1 h1 => wpAny_mono h1 (fun m5 s2 h2 => ?_) fun _ _ z => z) fun _ _ z => z)
  obtain ⟨it, fp, bR, J, H2, e, I2, T, gH, f2, q2⟩ := h2
  subst e
  refine kO (RR := fun acc C => compPost (model X.prog X.w) X.A X.xe none (EP X pins σ Q) acc C) (body := fun acc env => o7 (.ListComp elt [⟨tg, iter, ifs, 0⟩, ⟨iF, cn, gB, 0⟩] scope pos) cn 1 acc env) (tb := fun D => pf zD g2 lr (o9 D te)) (O0 := .lst []) (o0 := { cls := .type "list", dict := none, data := .seq ([] : List Value).toArray })
    (fun Q q => wpAny_newObj_type q) rfl (fun H h1 hd => ⟨Nat.zero_le _, [], 0, .nil, hd⟩) hc B (fun D cl C s H fp => ⟨fun _ => rfl, fun _ _ _ _ h => h, fun _ => Bw .., fun _ _ _ _ h => h, rfl⟩) hg ht (fun D cl C s H fp => Ej hc (fun _ _ z => z) ⟨fun _ => rfl, fun _ _ _ _ h => h, fun _ => zy .., fun _ _ _ _ h => h, rfl⟩ (jY cl C s H fp) (Hv cl C s H fp) (Hw cl C s H fp) (Ei (he cl C s H fp)) (iV _))
    I2 T gH f2 cG ez q2 fun D C m s' H' J2 fC hm q => ?_
  exact ⟨m, hm, fun h' gJ => ⟨.ref D, H', fC.turn J2 gJ, rfl, q⟩⟩
theorem ph {P : Program} {w : World} {H : Hp} {h : Heap} {a : Addr} (tup : Bool) (hb : sysModules < a) (e : h.get? a = some { cls := .type "dict", data := .dict #[] }) : ObjOk P w H h a (if tup = true then .dT [] else .dK []) := by
  have ne : (a == sysModules) = false := beq_eq_false_iff_ne.mpr (Ne.symm (Nat.ne_of_lt hb))
  cases tup with
  | true => exact ⟨Nat.zero_le _, ne, [], .nil, _, #[], 0, e, ⟨rfl, rfl, rfl⟩, rfl, rfl, List.nodup_nil⟩
  | false => exact ⟨Nat.zero_le _, ne, [], .nil, _, #[], 0, e, ⟨rfl, rfl, rfl⟩, rfl, (fun _ he => by simp at he), Pairs.nil, List.nodup_nil⟩
theorem uS (tup : Bool) (hu : X.A.units + 1 < cLine) (hc : X.calm = true) (B : aB X.N X.env.scope scope N' tn idx) (hi : PI X tg iter wi)
    (hg : Blk X N' scope fun Y => PG Y tg g) (ht : Blk X N' scope fun Y => fX Y ifs tt) (hk : Blk X N' scope fun Y => PE Y k tk) (hv : Blk X N' scope fun Y => PE Y v tv)
    (hs : ∀ x, foldedSetIterable iter X.env x = pure x := by intro _; rfl) : PE X (.DictComp k v [⟨tg, iter, ifs, 0⟩] scope pos) (tV tup tn idx wi g tt tk tv) := by
  refine ⟨?_⟩
  intro pins s σ H Q I h
  obtain ⟨cl, fb, cG, ez⟩ := eu (scope := scope) (env := X.env) fun n hn => I.ok.has n ((B.2.1 _ hn).2.2 rfl)
  rw [arm_eval_DictComp]
  refine wpAny_comprehension_free (use := none) rfl hs fb B.1 (fun y hy => (B.2.1 y hy).2.1) (wpAny_mono (hi pins s σ H _ I h) (fun xv s1 h1 => wpAny_mono h1 (fun m5 s2 h2 => ?_) fun _ _ z => z) fun _ _ z => z)
  obtain ⟨it, fp, bR, J, H2, e, I2, T, gH, f2, q2⟩ := h2
  subst e
  refine kO (RR := fun acc C => compPost (model X.prog X.w) X.A X.xe none (EP X pins σ Q) acc C) (body := fun acc env => match acc with | .ref D => rT k v D env | _ => pure ()) (tb := fun D => rU D tk tv) (O0 := if tup = true then .dT [] else .dK []) (o0 := { cls := .type "dict", data := .dict #[] })
    (fun Q q => wpAny_newObj_type q) rfl (fun H h1 hd => ph tup I2.big hd) hc B (fun D cl C s H fp => ⟨fun _ => rfl, fun _ _ _ _ h => h, fun _ => rl .., fun _ _ _ _ h => h, rfl⟩) hg ht (fun D cl C s H fp => zB hu (hk cl C s H fp) (hv cl C s H fp))
    I2 T gH f2 cG ez q2 fun D C m s' H' J2 fC hm q => ?_
  exact ⟨m, hm, fun h' gJ => ⟨.ref D, H', fC.turn J2 gJ, rfl, q⟩⟩
theorem wL {i : Nat} {y : Str} {py dR : Pos} (tup : Bool) (hu : X.A.units + 1 < cLine) (hN : X.N.Nodup) (c9 : X.N[i]? = some y) (hy : X.env.scope.names.lookup y = some .local) (hc : X.calm = true) (B : aB X.N X.env.scope scope N' tn idx) (hi : PI X tg iter wi)
    (hg : Blk X N' scope fun Y => PG Y tg g) (ht : Blk X N' scope fun Y => fX Y ifs tt) (hk : Blk X N' scope fun Y => PE Y k tk) (hv : Blk X N' scope fun Y => PE Y v tv)
    (jW : swapsWith (.DictComp k v [⟨tg, iter, ifs, 0⟩] scope pos) (some (.Name y py)) dR.line X.env = pure true := by rfl)
    (hs : ∀ x, foldedSetIterable iter X.env x = pure x := by intro _; rfl) : PS X (.Assign [.Name y py] (.DictComp k v [⟨tg, iter, ifs, 0⟩] scope pos) dR) (nI (tV tup tn idx wi g tt tk tv) (ke i)) := by
  refine ⟨?_⟩
  intro pins s σ H D I h
  obtain ⟨cl, fb, cG, ez⟩ := eu (scope := scope) (env := X.env) fun n hn => I.ok.has n ((B.2.1 _ hn).2.2 rfl)
  rw [exec_Assign_Name_used _ _ _ _ jW]
  refine wpAny_bind (wpAny_standAt (wpAny_bind ?_))
  show wpAny _ X.A (do let _ ← comprehension (.DictComp k v [⟨tg, iter, ifs, 0⟩] scope pos) scope X.env _ newDict false (eval iter X.env) (some (assign (.Name y py) X.env))) _ _ s
  refine wpAny_bind (wpAny_mono (wpAny_comprehension_free (use := some (assign (.Name y py) X.env)) (Q := fun _ s' => SP X pins D .next s') rfl hs fb B.1 (fun y hy => (B.2.1 y hy).2.1)
    (wpAny_mono (hi pins s σ H _ I h) (fun xv s1 h1 => wpAny_mono h1 (fun m5 s2 h2 => ?_) fun _ _ z => z) fun _ _ z => z)) (fun _ s' hq => wpAny_pure (wpAny_pure hq)) fun _ _ z => z)
  obtain ⟨it, fp, bR, J, H2, e, I2, T, gH, f2, q2⟩ := h2
  subst e
  refine kO (Q := fun x H1 => ke i x σ H1 D.nx) (RR := fun acc C => compPost (model X.prog X.w) X.A X.xe (some (assign (.Name y py) X.env)) (fun _ s' => SP X pins D .next s') acc C) (body := fun acc env => match acc with | .ref D => rT k v D env | _ => pure ()) (tb := fun D => rU D tk tv) (O0 := if tup = true then .dT [] else .dK []) (o0 := { cls := .type "dict", data := .dict #[] })
    (fun Q q => wpAny_newObj_type q) rfl (fun H h1 hd => ph tup I2.big hd) hc B (fun D cl C s H fp => ⟨fun _ => rfl, fun _ _ _ _ h => h, fun _ => rl .., fun _ _ _ _ h => h, rfl⟩) hg ht (fun D cl C s H fp => zB hu (hk cl C s H fp) (hv cl C s H fp))
    I2 T gH f2 cG ez q2 fun E C m s' H' J2 fC hm q => ?_
  show wpAny _ X.A (assign (.Name y py) X.env (.ref E)) _ _ s'
  refine wpAny_assign_Name (store_ok2 J2 hN c9 (.inl hy) (v := .ref E) rfl (fun s3 J3 ⟨a, yf, ha⟩ => ?_) (.inr hy))
  have fY : C ≠ a := by
    rcases ha with z | z
    · rw [z]; exact fC.2.1
    · exact fun w => fC.2.2.2.2.1 _ _ z w.symm
  exact ⟨m, hm.sameBut yf fY, fun h' gJ => ⟨_, H', fC.turn J3 gJ, q⟩⟩
end
noncomputable abbrev mn := List Dv → aA → Mh → (List Dv → aA → Mh → Prop) → Prop
noncomputable def zlOne (te : aJ) : mn := fun acc τ M Q => te τ M fun y M' => acc.length < sizeLine ∧ Q (acc ++ [y]) τ M'
noncomputable def ji (g : bL) (tt : bS) (lb : mn) : List Dv → mn
  | [], acc, τ, M, Q => Q acc τ M
  | d :: ds, acc, τ, M, Q => g d τ M fun ay M2 => tt ay M2 fun b M3 => if b = true then lb acc ay M3 fun kQ Ht M4 => ji g tt lb ds kQ Ht M4 Q else ji g tt lb ds acc ay M3 Q
noncomputable def zlNest (zi : cO) (g : bL) (tt : bS) (lb : mn) : mn := fun acc τ M Q => zi τ M fun es M1 => ji g tt lb es acc τ M1 Q
theorem tX {g : bL} {lb : mn} (I : Nat → List Dv → aA → Mh → Prop) : ∀ {ds : List Dv} {i : Nat} {acc : List Dv} {τ : aA} {M : Mh} {Q : List Dv → aA → Mh → Prop}, I i acc τ M →
    (∀ j d acc τ M, ds[j]? = some d → I (i + j) acc τ M → ∀ R : List Dv → aA → Mh → Prop, (∀ kQ ay M2, I (i + j + 1) kQ ay M2 → R kQ ay M2) → g d τ M fun ay M2 => lb acc ay M2 R) →
    (∀ acc τ M, I (i + ds.length) acc τ M → Q acc τ M) → ji g zNoIf lb ds acc τ M Q
  | [], i, acc, τ, M, Q, h, _, q => q acc τ M h
  | d :: ds, i, acc, τ, M, Q, h, hs, q => by
    refine hs 0 d acc τ M rfl h (fun kQ ay M2 => ji g zNoIf lb ds kQ ay M2 Q) fun kQ ay M2 h2 => ?_
    refine tX I (i := i + 1) h2 (fun j d acc τ M hd hI R hR => hs (j + 1) d acc τ M hd (by rw [show i + (j + 1) = i + 1 + j by omega]; exact hI) R fun kQ ay M2 h3 => hR kQ ay M2 (by rw [show i + 1 + j + 1 = i + (j + 1) + 1 by omega]; exact h3)) fun acc τ M h3 => q acc τ M (by rw [List.length_cons, show i + (ds.length + 1) = i + 1 + ds.length by omega]; exact h3)
noncomputable def N8 (J : It) (ds : List Dv) : Prop := ∃ vs : List V, vs.length = ds.length ∧ (∀ (β : Bz) M H, aI β M H vs ds) ∧ ∀ H, Runs J vs H
noncomputable def Hx (Γ : Gz) (p : cO) : TI := fun σ H R => ∃ (β : Bz) (ρ : aA) (M : Mh) (R' : List Dv → Mh → Prop), Zr Γ β M ρ σ H ∧ p ρ M R' ∧ ∀ ds M' H' J, Ex β M H M' H' → N8 J ds → R' ds M' → R J H'
noncomputable abbrev QIr (Γ : Gz) (X : Cx) (tg e : Expr) (p : cO) : Prop := PI X tg e (Hx Γ p)
section
variable {Γ : Gz} {β : Bz} {g : bL} {tt : bS} {D : Addr} {M1 : Mh} {H1 : Hp}
noncomputable def CV (Γ : Gz) (β : Bz) (D : Addr) (M1 : Mh) (H1 : Hp) (lb : mn) (tb : TB) : Prop := ∀ (aR : aA) (M : Mh) (τ : St) (H : Hp) (acc : List V) (aL : List Dv) (N : St → Hp → Prop) (N' : List Dv → aA → Mh → Prop), Acc Γ β D M1 H1 aR M τ H acc aL → lb aL aR M N' →
  (∀ rV wM M' ay H' fN, Acc Γ β D M1 H1 wM M' ay H' fN rV → N' rV wM M' → N ay H') → tb τ H N
noncomputable def LW (Γ : Gz) (β : Bz) (D : Addr) (M1 : Mh) (H1 : Hp) (g : bL) (tt : bS) (lb : mn) (ds : List Dv) (N' : List Dv → aA → Mh → Prop) (i m : Nat) (τ : St) (H : Hp) : Prop :=
  m = ds.length - i ∧ i ≤ ds.length ∧ ∃ aR M acc aL, Acc Γ β D M1 H1 aR M τ H acc aL ∧ ji g tt lb (ds.drop i) aL aR M N'
theorem vL {lb : mn} {tb : TB} {ds : List Dv} {N' : List Dv → aA → Mh → Prop} {J : It} {QE : St → Hp → Prop}
    (it : ∀ aR M τ H acc aL, Acc Γ β D M1 H1 aR M τ H acc aL → ∀ i, (i < ds.length → J.go i H ∧ ∀ x gL, J.yld i H x gL → Ex (β.add D) M H M gL ∧ ∃ d, ds[i]? = some d ∧ Rz (β.add D) M gL x d) ∧ (ds.length ≤ i → J.stop i H))
    (Hy : CV Γ β D M1 H1 lb tb) (sT : ∀ aR M τ H acc aL, Acc Γ β D M1 H1 aR M τ H acc aL → N' aL aR M → QE τ H) :
    tLoop J (lG Γ g) (lT Γ tt) tb QE (LW Γ β D M1 H1 g tt lb ds N') := by
  rintro i m τ H ⟨rfl, hi, aR, M, acc, aL, A, h⟩
  have q := it _ _ _ _ _ _ A i
  by_cases bu : i < ds.length
  · refine .inr ⟨(q.1 bu).1, fun x H' y => ?_⟩
    obtain ⟨x2, d, hd, rd⟩ := (q.1 bu).2 x H' y
    have e : ds.drop i = d :: ds.drop (i + 1) := by
      rw [List.drop_eq_getElem_cons bu]
      rw [List.getElem?_eq_getElem bu] at hd
      cases hd
      rfl
    rw [e] at h
    have A2 := A.step x2 (A.zr.step x2)
    refine ⟨β.add D, d, aR, M, _, A2.zr, rd, h, fun eO M3 lj H3 x3 z3 h3 => ?_⟩
    have A3 := A2.step x3 z3
    refine ⟨β.add D, eO, M3, _, z3, h3, fun b M4 H4 x4 h4 => ?_⟩
    have A4 := A3.step x4 (z3.step x4)
    cases b with
    | false =>
      dsimp only at h4 ⊢
      rw [if_neg Bool.false_ne_true] at h4 ⊢
      exact ⟨ds.length - (i + 1), by omega, rfl, bu, eO, M4, acc, aL, A4, h4⟩
    | true =>
      dsimp only at h4 ⊢
      rw [if_pos rfl] at h4 ⊢
      exact Hy _ _ _ _ _ _ _ _ A4 h4 fun rV wM M' ay H' fN A5 h5 => ⟨ds.length - (i + 1), by omega, rfl, bu, wM, M', fN, rV, A5, h5⟩
  · have e : i = ds.length := by omega
    subst e
    rw [List.drop_length] at h
    exact .inl ⟨q.2 (Nat.le_refl _), sT _ _ _ _ _ _ A h⟩
theorem Ek {te : aJ} : CV Γ β D M1 H1 (zlOne te) (o9 D (lE Γ te)) := fun aR M τ H acc aL N N' A h hN => by
  refine ⟨β.add D, aR, M, _, A.zr, h, fun d M5 v H5 x5 r5 ⟨hl, h5⟩ => ?_⟩
  have A5 := A.step x5 (A.zr.step x5)
  exact ⟨acc, A5.at', by rw [A.rs.len]; exact hl, hN _ _ _ _ _ _ (A5.snoc r5) h5⟩
theorem By {zi : cO} {lb : mn} {tb : TB} (Hy : CV Γ β D M1 H1 lb tb) : CV Γ β D M1 H1 (zlNest zi g tt lb) (pf (Hx Γ zi) (lG Γ g) (lT Γ tt) tb) := fun aR M τ H acc aL N N' A h hN => by
  refine ⟨β.add D, aR, M, _, A.zr, h, fun ds M2 H2 J x2 ⟨vs, hl, hr, hR⟩ h2 => ?_⟩
  have A2 := A.step x2 (A.zr.step x2)
  refine ⟨LW Γ β D M1 H1 g tt lb ds N', ⟨_, rfl, Nat.zero_le _, _, _, _, _, A2, h2⟩, vL (fun aR M τ H acc aL A i => ?_) Hy fun aR M τ H acc aL A h => hN _ _ _ _ _ _ A h⟩
  have q := hR H i
  rw [hl] at q
  refine ⟨fun hi => ⟨(q.1 hi).1, fun v gL y => ?_⟩, q.2⟩
  obtain ⟨e, hv⟩ := (q.1 hi).2 v gL y
  subst e
  obtain ⟨d, hd, rd⟩ := (hr (β.add D) M gL).get' hv
  exact ⟨.refl A.zr.mz, d, hd, rd⟩
noncomputable def zComp2 (tn : Nat) (idx : List Nat) (zi : cO) (g : bL) (tt : bS) (lb : mn) : aJ := fun ρ M Q => zi ρ M fun ds M1 => ji g tt lb ds [] (zBlock tn idx ρ) M1 fun ys _ M2 => Q (.lst ys) M2
theorem El {tn : Nat} {idx : List Nat} {zi vM : cO} {g2 : bL} {lr : bS} {te : aJ} {σ : St} {H : Hp} {Q : VK} (h : lE Γ (zComp2 tn idx zi g tt (zlNest vM g2 lr (zlOne te))) σ H Q) : vK tn idx (lI Γ zi) (lG Γ g) (lT Γ tt) (Hx Γ vM) (lG Γ g2) (lT Γ lr) (lE Γ te) σ H Q := by
  obtain ⟨β, ρ, M, Q', zr, h, q⟩ := h
  refine ⟨β, ρ, M, _, zr, h, fun ds M1 H1 J x1 it h1 D hD => ?_⟩
  have gM := zr.step x1
  refine ⟨LW Γ β D M1 H1 g tt (zlNest vM g2 lr (zlOne te)) ds fun ys _ M2 => Q' (.lst ys) M2, ⟨_, rfl, Nat.zero_le _, _, _, _, _, .start (gM.block tn idx) hD, h1⟩, vL (fun aR M τ H acc aL A i => it (β.add D) M H (.add A.h1) A.ey A.zr.mz i) (By Ek) fun aR M τ H acc aL A h => ?_⟩
  exact q _ _ _ _ (x1.trans A.ex) (oI (A.fz gM.mz) A.at' A.items) h
end
section
variable {X : Cx} {Γ : Gz} {tg elt iter iF cn : Expr} {ifs gB : List Expr} {scope : Scope} {pos : Pos} {N' : List Str} {tn : Nat} {idx : List Nat} {zi vM : cO} {g g2 : bL} {tt lr : bS} {te : aJ}
theorem tY (hc : X.calm = true) (B : aB X.N X.env.scope scope N' tn idx) (hi : QI Γ X tg iter zi)
    (hg : Blk X N' scope fun Y => QG Γ Y tg g) (ht : Blk X N' scope fun Y => lh Γ Y ifs tt) (jY : Blk X N' scope fun Y => QIr Γ Y iF cn vM) (Hv : Blk X N' scope fun Y => QG Γ Y iF g2) (Hw : Blk X N' scope fun Y => lh Γ Y gB lr) (he : Blk X N' scope fun Y => QE Γ Y elt te)
    (hs : ∀ x, foldedSetIterable iter X.env x = pure x := by intro _; rfl) (iV : ∀ env x, foldedSetIterable cn env x = pure x := by intro _ _; rfl) : QE Γ X (.ListComp elt [⟨tg, iter, ifs, 0⟩, ⟨iF, cn, gB, 0⟩] scope pos) (zComp2 tn idx zi g tt (zlNest vM g2 lr (zlOne te))) :=
  (tW hc B hi hg ht jY Hv Hw he hs iV).imp fun σ H Q h => El h
theorem wN {pa : eX} {tg a b : Expr} {p pos : Pos} (hg : Gl X "range") (hm : X.mg "range" = none) (ha : QA Γ X [a, b] pa) (hs : starEach [a, b] X.env = [(false, eval a X.env), (false, eval b X.env)] := by rfl) (iV : starEach [b] X.env = [(false, eval b X.env)] := by rfl) :
    QIr Γ X tg (.Call (.Name "range" p) [a, b] [] pos) (ziRng2 pa) := (qw hg hm ha hs iV).imp fun σ H R h => by
  obtain ⟨β, ρ, M, R', zr, h, q⟩ := h
  refine ⟨β, ρ, M, _, zr, h, fun ds M1 vs H1 x1 r1 h1 => ?_⟩
  revert h1
  split
  · rintro ⟨b1, h1⟩
    obtain ⟨v, u, rfl, r, r'⟩ := gR r1
    rw [aN r, aN r']
    exact ⟨_, _, rfl, b1, q _ _ _ _ x1 ⟨_, by simp [cq], fun _ _ _ => lW, fun _ => kh⟩ h1⟩
  · exact fun h => h.elim
end
noncomputable def mU (g : bL) (tt : bS) (tk tv : aJ) : List Dv → List (List Key) → List Dv → aA → Mh → (List (List Key) → List Dv → Mh → Prop) → Prop
  | [], ks, es, _, M, Q => Q ks es M
  | d :: ds, ks, es, τ, M, Q => g d τ M fun ay M2 => tt ay M2 fun b M3 => if b = true then tk ay M3 fun k M4 => tv ay M4 fun v M5 => ks.length < sizeLine ∧ (match k with
    | .tup xs => (match eU xs with | some k => mU g tt tk tv ds (putL ks k) (cR ks es k v) ay M5 Q | none => False)
    | _ => False) else mU g tt tk tv ds ks es ay M3 Q
noncomputable def zCompDT (tn : Nat) (idx : List Nat) (zi : cO) (g : bL) (tt : bS) (tk tv : aJ) : aJ := fun ρ M Q => zi ρ M fun ds M1 => mU g tt tk tv ds [] [] (zBlock tn idx ρ) M1 fun ks es M2 => ∀ a, M2 a = none → Q (.ptr a) (av M2 a (.dt ks es))
theorem zE {g : bL} {tk tv : aJ} (I : Nat → List (List Key) → List Dv → aA → Mh → Prop) : ∀ {ds : List Dv} {i : Nat} {ks : List (List Key)} {es : List Dv} {τ : aA} {M : Mh} {Q : List (List Key) → List Dv → Mh → Prop}, I i ks es τ M →
    (∀ j d ks es τ M, ds[j]? = some d → I (i + j) ks es τ M → ∀ R : List (List Key) → List Dv → aA → Mh → Prop, (∀ eV tZ ay M2, I (i + j + 1) eV tZ ay M2 → R eV tZ ay M2) → g d τ M fun ay M2 => tk ay M2 fun k M4 => tv ay M4 fun v M5 => ks.length < sizeLine ∧ (match k with
      | .tup xs => (match eU xs with | some k => R (putL ks k) (cR ks es k v) ay M5 | none => False)
      | _ => False)) →
    (∀ ks es τ M, I (i + ds.length) ks es τ M → Q ks es M) → mU g zNoIf tk tv ds ks es τ M Q
  | [], i, ks, es, τ, M, Q, h, _, q => q ks es τ M h
  | d :: ds, i, ks, es, τ, M, Q, h, hs, q => by
    refine hs 0 d ks es τ M rfl h (fun eV tZ ay M2 => mU g zNoIf tk tv ds eV tZ ay M2 Q) fun eV tZ ay M2 h2 => ?_
    refine zE I (i := i + 1) h2 (fun j d ks es τ M hd hI R hR => hs (j + 1) d ks es τ M hd (by rw [show i + (j + 1) = i + 1 + j by omega]; exact hI) R fun eV tZ ay M2 h3 => hR eV tZ ay M2 (by rw [show i + 1 + j + 1 = i + (j + 1) + 1 by omega]; exact h3)) fun ks es τ M h3 => q ks es τ M (by rw [List.length_cons, show i + (ds.length + 1) = i + 1 + ds.length by omega]; exact h3)
structure jj (Γ : Gz) (β : Bz) (D : Addr) (M1 : Mh) (H1 : Hp) (aR : aA) (M : Mh) (τ : St) (H : Hp) (ks : List (List Key)) (acc : List V) (aL : List Dv) : Prop where
  ey : Ey M1 H1 M H
  m : M D = none
  zr : Zr Γ (β.add D) M aR τ H
  at' : H D = some (.dT (ks.zip acc))
  hk : ks.length = acc.length
  rs : aI (β.add D) M H acc aL
  h1 : H1 D = none
  h0 : Γ.H0 D = none
  nt : D ∉ β.tb
section
variable {Γ : Gz} {β : Bz} {D : Addr} {M1 M M2 : Mh} {H1 H H2 : Hp} {aR tj : aA} {τ ay : St} {ks : List (List Key)} {acc : List V} {aL : List Dv}
theorem jj.start (zr : Zr Γ β M1 aR τ H1) (hD : H1 D = none) : jj Γ β D M1 H1 aR M1 τ (upd H1 D (.dT [])) [] [] [] :=
  ⟨Ey.refl.over hD, zr.mz.free hD, zr.enter hD rfl, aM, rfl, .nil, hD, zr.ent.gone hD (by
    cases e : Γ.M0 D with
    | none => rfl
    | some u => have := zr.ent.dom D (by rw [e]; rfl); rw [zr.mz.free hD] at this; cases this), zr.mz.A8 hD⟩
theorem jj.step (A : jj Γ β D M1 H1 aR M τ H ks acc aL) (x : Ex (β.add D) M H M2 H2) (z : Zr Γ (β.add D) M2 tj ay H2) : jj Γ β D M1 H1 tj M2 ay H2 ks acc aL :=
  ⟨A.ey.trans x.toEy, x.new D _ A.m A.at', z, x.y8 List.mem_cons_self A.m A.at' rfl, A.hk, A.rs.ex x, A.h1, A.h0, A.nt⟩
theorem jj.put (A : jj Γ β D M1 H1 aR M τ H ks acc aL) {k : List Key} {y : V} {d : Dv} (r : Rz (β.add D) M H y d) : jj Γ β D M1 H1 aR M τ (upd H D (.dT ((putL ks k).zip (cR ks acc k y)))) (putL ks k) (cR ks acc k y) (cR ks aL k d) := by
  have hD : D ∈ (β.add D).hid := List.mem_cons_self
  exact ⟨A.ey.over A.h1, A.m, A.zr.over hD rfl A.m A.nt A.h0, aM, kM A.hk k y, ⟨(jf k r A.rs).len, fun i v d a b => ((jf k r A.rs).at' i v d a b).over hD⟩, A.h1, A.h0, A.nt⟩
theorem zF {H : Hp} {a : Addr} {o : HO} (h : H a = some o) : upd H a o = H := by
  funext b
  by_cases e : b = a
  · rw [e, aM, h]
  · rw [ai e]
theorem jj.own (A : jj Γ β D M1 H1 aR M τ H ks acc aL) (m1 : Mz β M1 H1) : Ex β M1 H1 (av M D (.dt ks aL)) H := by
  have mz : Mz β (av M D (.dt ks aL)) (upd H D (.dT (ks.zip acc))) := A.zr.mz.Hg A.m (m1.fz A.h1).2 A.nt rfl ⟨acc, aM, A.hk, jg A.rs⟩
  rw [zF A.at'] at mz
  exact ⟨⟨A.ey.keep, fun a h => by unfold av; split; rfl; exact A.ey.dom a h, fun a w m e => by rw [ao (bh e A.h1)]; exact A.ey.new a w m e⟩, mz⟩
end
section
variable {Γ : Gz} {β : Bz} {g : bL} {tt : bS} {tk tv : aJ} {zi : cO} {tn : Nat} {idx : List Nat}
theorem t5 {σ : St} {H : Hp} {Q : VK} (h : lE Γ (zCompDT tn idx zi g tt tk tv) σ H Q) : tV true tn idx (lI Γ zi) (lG Γ g) (lT Γ tt) (lE Γ tk) (lE Γ tv) σ H Q := by
  obtain ⟨β, ρ, M, Q', zr, h, q⟩ := h
  refine ⟨β, ρ, M, _, zr, h, fun ds M1 H1 J x1 it h1 D hD => ?_⟩
  have gM := zr.step x1
  refine ⟨fun i m τ H => m = ds.length - i ∧ i ≤ ds.length ∧ ∃ aR M ks acc aL, jj Γ β D M1 H1 aR M τ H ks acc aL ∧ mU g tt tk tv (ds.drop i) ks aL aR M fun ks es M2 => ∀ a, M2 a = none → Q' (.ptr a) (av M2 a (.dt ks es)), ⟨_, rfl, Nat.zero_le _, _, _, _, _, _, .start (gM.block tn idx) hD, h1⟩, ?_⟩
  rintro i m τ H ⟨rfl, hi, aR, M, ks, acc, aL, A, h⟩
  have q2 := it (β.add D) M H (.add A.h1) A.ey A.zr.mz i
  by_cases bu : i < ds.length
  · refine .inr ⟨(q2.1 bu).1, fun x H' y => ?_⟩
    obtain ⟨x2, d, hd, rd⟩ := (q2.1 bu).2 x H' y
    have e : ds.drop i = d :: ds.drop (i + 1) := by
      rw [List.drop_eq_getElem_cons bu]
      rw [List.getElem?_eq_getElem bu] at hd
      cases hd
      rfl
    rw [e] at h
    have A2 := A.step x2 (A.zr.step x2)
    refine ⟨β.add D, d, aR, M, _, A2.zr, rd, h, fun eO M3 lj H3 x3 z3 h3 => ?_⟩
    have A3 := A2.step x3 z3
    refine ⟨β.add D, eO, M3, _, z3, h3, fun b M4 H4 x4 h4 => ?_⟩
    have A4 := A3.step x4 (z3.step x4)
    cases b with
    | false =>
      dsimp only at h4 ⊢
      rw [if_neg Bool.false_ne_true] at h4 ⊢
      exact ⟨ds.length - (i + 1), by omega, rfl, bu, eO, M4, ks, acc, aL, A4, h4⟩
    | true =>
      dsimp only at h4 ⊢
      rw [if_pos rfl] at h4 ⊢
      refine ⟨β.add D, eO, M4, _, A4.zr, h4, fun kd M5 kv H5 x5 r5 h5 => ⟨β.add D, eO, M5, _, A4.zr.step x5, h5, fun vd M6 vv H6 x6 r6 h6 => ?_⟩⟩
      have A6 := (A4.step x5 (A4.zr.step x5)).step x6 ((A4.zr.step x5).step x6)
      obtain ⟨hl, h6⟩ := h6
      split at h6
      · split at h6
        · rename_i k oT
          obtain ⟨b, us, rfl, _, hb, ru⟩ := bX (r5.ex x6)
          rw [gW ru oT] at hb
          have K3 : (ks.zip acc).length < sizeLine := by rw [List.length_zip, ← A6.hk, Nat.min_self]; exact hl
          have e4 : putK (ks.zip acc) k vv = (putL ks k).zip (cR ks acc k vv) := mQ A6.hk k vv
          exact ⟨_, .inr ⟨_, k, b, A6.at', rfl, hb, K3, rfl⟩, ds.length - (i + 1), by omega, rfl, bu, eO, M6, _, _, _, e4 ▸ A6.put r6, h6⟩
        · exact h6.elim
      · exact h6.elim
  · have e : i = ds.length := by omega
    subst e
    rw [List.drop_length] at h
    exact .inl ⟨q2.2 (Nat.le_refl _), q _ _ _ _ (x1.trans (A.own gM.mz)) (.ptr (by rw [updM_same]; rfl)) (h D A.m)⟩
variable {X : Cx} {tg k v iter : Expr} {ifs : List Expr} {scope : Scope} {pos : Pos} {N' : List Str}
theorem Hz (hu : X.A.units + 64 < cLine) (hc : X.calm = true) (B : aB X.N X.env.scope scope N' tn idx) (hi : QI Γ X tg iter zi)
    (hg : Blk X N' scope fun Y => QG Γ Y tg g) (ht : Blk X N' scope fun Y => lh Γ Y ifs tt) (hk : Blk X N' scope fun Y => QE Γ Y k tk) (hv : Blk X N' scope fun Y => QE Γ Y v tv)
    (hs : ∀ x, foldedSetIterable iter X.env x = pure x := by intro _; rfl) : QE Γ X (.DictComp k v [⟨tg, iter, ifs, 0⟩] scope pos) (zCompDT tn idx zi g tt tk tv) :=
  (uS true (by omega) hc B hi hg ht hk hv hs).imp fun σ H Q h => t5 h
theorem uT {i : Nat} {y : Str} {py dR : Pos} (hu : X.A.units + 64 < cLine) (hN : X.N.Nodup) (c9 : X.N[i]? = some y) (hy : X.env.scope.names.lookup y = some .local) (hc : X.calm = true) (B : aB X.N X.env.scope scope N' tn idx) (hi : QI Γ X tg iter zi)
    (hg : Blk X N' scope fun Y => QG Γ Y tg g) (ht : Blk X N' scope fun Y => lh Γ Y ifs tt) (hk : Blk X N' scope fun Y => QE Γ Y k tk) (hv : Blk X N' scope fun Y => QE Γ Y v tv)
    (jW : swapsWith (.DictComp k v [⟨tg, iter, ifs, 0⟩] scope pos) (some (.Name y py)) dR.line X.env = pure true := by rfl)
    (hs : ∀ x, foldedSetIterable iter X.env x = pure x := by intro _; rfl) : QS Γ X (.Assign [.Name y py] (.DictComp k v [⟨tg, iter, ifs, 0⟩] scope pos) dR) (zAsg (zCompDT tn idx zi g tt tk tv) (zgName i)) :=
  (wL true (by omega) hN c9 hy hc B hi hg ht hk hv jW hs).imp fun D σ H h => oK (fun _ _ _ h => t5 h) h
end
section
variable {X : Cx} {Γ : Gz} {K : PySem.W.Frag}
noncomputable def BA (x : V) (H : Hp) : Prop := ∃ p, x = .ref p ∧ ((∃ aq, Rd H p (.dK aq)) ∨ ∃ aq, Rd H p (.dT aq))
noncomputable def Mv (r : V → List V → Hp → VK → Prop) (to : TE) (t : TA) : TE := fun σ H Q => to σ H fun x H1 => BA x H1 ∧ t σ H1 fun xs H2 => r x xs H2 Q
theorem Em {pins : List (Addr × Obj)} {σ : St} {H : Hp} {s : Shared} {x : V} {v : Value} (I : Inv X pins σ H s) (r : RelV x v) (ty : BA x H) : s.TypeIs v "dict" ∧ ∀ a, v = .ref a → ∃ ob, s.heap.get? a = some ob ∧ ob.dict = none := by
  obtain ⟨p, rfl, hk⟩ := ty
  cases (show v = Value.ref p from r)
  rcases hk with ⟨aq, hk⟩ | ⟨aq, hk⟩
  · obtain ⟨_, _, _, _, o, _, _, e, ex, _⟩ := ko I.hok hk
    exact ⟨⟨o, e, ex.1⟩, fun a e2 => by cases e2; exact ⟨o, e, ex.2.1⟩⟩
  · obtain ⟨_, _, _, _, o, _, _, e, ex, _⟩ := kr I.hok hk
    exact ⟨⟨o, e, ex.1⟩, fun a e2 => by cases e2; exact ⟨o, e, ex.2.1⟩⟩
variable {o e : Expr} {es : List Expr} {to : TE} {t : TA} {name : Str} {apos aO : Pos} {id : String} {r : V → List V → Hp → VK → Prop}
theorem HA (pa : PlainAttrs "dict") (slot : Slot "dict" name id) (iZ : typeOf (.builtin id) = pure (.type "method_descriptor")) (hm : so X id r) (ho : PE X o to) (ha : PA X (e :: es) t)
    (ej : attributeBase o name X.env (eval o X.env) = eval o X.env := by rfl)
    (kf : ((backTo aO (starEach (e :: es) X.env)).all (fun x => !x.1) && (backToKw aO (keywordEach [] X.env)).all (fun x => x.1.isSome) && decide ((e :: es).length + ([] : List Keyword).length + (if ([] : List Keyword).isEmpty then 0 else 1) < 30)) = true := by rfl)
    (hline : (apos.endLine == aO.line) = true := by rfl) (hs : starEach (e :: es) X.env = (false, eval e X.env) :: starEach es X.env := by rfl) (gh : (backTo aO (starEach es X.env)).any (·.1) = false := by rfl) :
    PE X (.Call (.Attribute o name apos) (e :: es) [] aO) (Mv r to t) := by
  refine ⟨?_⟩
  intro pins s σ H Q I h
  refine wpAny_Call_method_late ej kf hline rfl (thn (ho pins s σ H _ I h) fun v s1 ⟨x, H1, I1, r1, ty, q1⟩ => ?_)
  obtain ⟨h1, h2⟩ := Em I1 r1 ty
  refine ⟨"dict", id, pa, slot, iZ, h1, h2, ?_⟩
  have hA := ha aO pins s1 σ H1 _ I1 q1
  rw [hs] at hA ⊢
  refine Calls.callWith_builtin (by show (false || (backTo aO (starEach es X.env)).any (·.1)) = false; rw [gh] <;> rfl) (Calls.evalArgs_plain ?_)
  exact thn hA fun us s2 ⟨vs, H2, I2, r2, q2⟩ => hm pins s2 σ H2 x vs v us Q I2 r1 r2 q2
noncomputable def tyD (M : Mh) (d : Dv) : Prop := match nowK M d with | .dk _ _ => True | .dt _ _ => True | _ => False
noncomputable def zBMD (z : ll) (po : aJ) (pa : eX) : aJ := fun ρ M Q => po ρ M fun d M1 => tyD M1 d ∧ pa ρ M1 fun ds M2 => z d ds M2 Q
theorem HB {β : Bz} {M : Mh} {H : Hp} {x : V} {d : Dv} (m : Mz β M H) (r : Rz β M H x d) (h : tyD M d) : BA x H := by
  unfold tyD at h
  split at h
  · rename_i ks ds hk
    obtain ⟨a, vs, rfl, ha, _⟩ := (pY m r).1 _ _ hk
    exact ⟨a, rfl, .inl ⟨_, ha⟩⟩
  · rename_i ks ds hk
    obtain ⟨a, vs, rfl, ha, _⟩ := (pY m r).2 _ _ hk
    exact ⟨a, rfl, .inr ⟨_, ha⟩⟩
  · exact h.elim
variable {po : aJ} {pa : eX} {z : ll}
theorem HC (pat : PlainAttrs "dict") (slot : Slot "dict" name id) (iZ : typeOf (.builtin id) = pure (.type "method_descriptor")) (hm : nu Γ X "dict" id K z) (ho : QE Γ X o po) (ha : QA Γ X (e :: es) pa) (ej : attributeBase o name X.env (eval o X.env) = eval o X.env := by rfl)
    (kf : ((backTo aO (starEach (e :: es) X.env)).all (fun x => !x.1) && (backToKw aO (keywordEach [] X.env)).all (fun x => x.1.isSome) && decide ((e :: es).length + ([] : List Keyword).length + (if ([] : List Keyword).isEmpty then 0 else 1) < 30)) = true := by rfl)
    (hline : (apos.endLine == aO.line) = true := by rfl) (hs : starEach (e :: es) X.env = (false, eval e X.env) :: starEach es X.env := by rfl) (gh : (backTo aO (starEach es X.env)).any (·.1) = false := by rfl) :
    QE Γ X (.Call (.Attribute o name apos) (e :: es) [] aO) (zBMD z po pa) := by
  obtain ⟨r, h1, h2⟩ := hm
  exact (HA pat slot iZ h1 ho ha ej kf hline hs gh).imp fun σ H Q ⟨β, ρ, M, Q', zr, h, q⟩ => ⟨β, ρ, M, _, zr, h, fun d M1 v H1 x1 r1 ⟨ht, h1⟩ => ⟨HB x1.mz r1 ht, β, ρ, M1, _, zr.step x1, h1, fun ds M2 vs H2 x2 r2 h3 =>
    h2 β v vs d ds M2 H2 _ _ zr.eP zr.ew zr.eK x2.mz (r1.ex x2) r2 h3 fun d' M' v' H' x3 r3 q3 => q _ _ _ _ (x1.trans (x2.trans x3)) r3 q3⟩⟩
end
section
variable {X : Cx}
noncomputable def CW (K : PySem.W.Frag) : List V → Hp → VK → Prop := fun xs H Q => ∃ (p : Addr) (bs : List Bool), xs = [.ref p] ∧ bH K H p (bs.map V.bl) ∧ Q (.bl (bs.any id)) H
theorem zG (hc : X.calm = true) : cP X (.builtin "any") (CW X.K) := by
  intro pins s σ H xs us Q I r h
  obtain ⟨p, bs, rfl, hq, q⟩ := h
  obtain ⟨u, rfl, rx⟩ := vals1 r
  cases rx
  have hh := I.ok.hd hc
  obtain ⟨its, rv, pl, hz⟩ := I.list hq
  have hl : its.toArray.size = bs.length := by rw [List.size_toArray, ← rv.length, List.length_map]
  have qM : s.heap.IsList p its.toArray := pl.isList
  have bu : p < s.heap.objs.size := let ⟨o, ho, _⟩ := qM; Heap.lt_size ho
  have at_ : ∀ (i : Nat) (v : Value), its.toArray[i]? = some v → v = .bool (bs.getD i false) := fun i v hv => by
    have h' : its[i]? = some v := by simpa using hv
    have hi : i < its.length := (List.getElem?_eq_some_iff.mp h').1
    have c9 : i < bs.length := by rw [List.size_toArray] at hl; omega
    obtain ⟨u, e, q2⟩ := rv.get (i := i) (x := V.bl bs[i]) (by rw [List.getElem?_map, List.getElem?_eq_getElem c9]; rfl)
    rw [h'] at e; cases e
    rw [List.getD_eq_getElem?_getD, List.getElem?_eq_getElem c9]
    exact q2
  refine call_function_tree F.kind_any F.plain_any F.entry_any (F.args_any1 _) ?_
  unfold Builtin.«any»
  refine wpAny_bind (m := oneArg "any" _) (wpAny_pure ?_)
  refine wpAny_bind (wpAny_pyIter_list qM ?_)
  have W := Walks.list (prog := X.prog) (w := X.w) (A := X.A.in1) (by simp [hh]) s.heap.objs.size p (Nat.ne_of_lt bu) its.toArray
  refine wpAny_pure ⟨plainId_quiet F.plain_any_loop _, codeAny_any_loop W (fun i => bs.getD i false) ?_ its.toArray.size 0 _ rfl (Nat.zero_le _) ⟨⟨_, Heap.get?_push_size _ rfl, rfl, rfl⟩, qM.push _⟩ fun h' tk hk => ?_⟩
  · intro i v s' Q' E' hv Gy
    have := at_ i v hv
    subst this
    exact wpAny_truthy_bool Gy
  · have e : ((List.range its.toArray.size).drop 0).any (fun i => bs.getD i false) = bs.any id := by
      rw [List.drop_zero, hl]
      refine Bool.eq_iff_iff.mpr ?_
      rw [List.any_eq_true, List.any_eq_true]
      constructor
      · rintro ⟨i, hi, hx⟩
        rw [List.mem_range] at hi
        rw [List.getD_eq_getElem?_getD, List.getElem?_eq_getElem hi] at hx
        exact ⟨_, List.getElem_mem hi, hx⟩
      · rintro ⟨b, hb, hx⟩
        obtain ⟨i, hi⟩ := List.getElem?_of_mem hb
        have jY := (List.getElem?_eq_some_iff.mp hi).1
        refine ⟨i, by rw [List.mem_range]; exact jY, ?_⟩
        rw [List.getD_eq_getElem?_getD, hi]
        exact hx
    have I2 : Inv X pins σ H { s with heap := h', toks := tk } := I.kept fun b o eb => hk b o (by simp only [List.mem_singleton]; exact Nat.ne_of_lt (Heap.lt_size eb)) (Heap.get?_push_of_some _ eb)
    refine ⟨.bl (bs.any id), H, I2, ?_, q⟩
    show Value.bool _ = Value.bool _
    rw [e]
end
section
variable {X : Cx} {Γ : Gz} {K : PySem.W.Frag}
theorem wO {K : PySem.W.Frag} (h : X.K = K) (hc : X.calm = true) : cP X (.builtin "any") (CW K) := h ▸ zG hc
noncomputable def zAnyB (d : Dv) (M : Mh) (Q : ZK) : Prop := match d with | .lst ds => (match boolsD ds with | some bs => Q (.bl (bs.any id)) M | none => False) | _ => False
theorem HD (hK : X.K = K) (hc : X.calm = true) : fH Γ X (.builtin "any") (z1 zAnyB) := ⟨_, wO hK hc, fun β xs ds M H Q Q' _ _ _ m rs z q => by
  unfold z1 at z
  split at z
  · obtain ⟨x, rfl, r⟩ := dw rs
    unfold zAnyB at z
    split at z
    · split at z
      · rename_i bs Hb
        obtain ⟨a, vs, rfl, f, ha, cf⟩ := cT r
        have e := me Hb
        subst e
        have := mh cf
        subst this
        exact ⟨a, bs, rfl, bH.of ha, q _ _ _ _ (.refl m) (.bl _) z⟩
      · exact z.elim
    · exact z.elim
  · exact z.elim⟩
theorem HE : bootBuiltins "any" = some (.builtin "any") := PyProof.Rows.boot_any
end
end L2
open PySem L2 PyProof.Rows
local macro_rules | `(tactic| simp! only [$xs,*] $[$l]?) => `(tactic| simp only [zVar, zC, zOp, zII, zIC, zEq, zNe, scalZ, zIsN, isNonD, zSS, zTest, zBool, zChain, zAnd, zOr, zNot, zAndV, zNotV, zIfE, zNil, zCons, zTup, zLst, zLstP, zCB, z1, zLenD, z2I, zAbs, zListP, zTuple, itemsM, zIsInst, isD, zBM, tyZ, zAppend, zExtend, zPop, zPopAt, zSetI, zgSub, zNext, zSeq, zDrop, zRet, zIfS, zgName, zgNil, zgCons, zgTup, zAsg, zFor, zForM, zComp, zCompP, zAll, zBlock, zCall, zRaise, zstart, zEndsOf, ziTup, ziLst, ziRng1, ziRng2, ziEnumK, ziZip, seqK, zIx, zRangeP, zTruth, truD, zNoIf, zAllB, zGetR, zDIn, zMGet, lookD, nowK, keyD, zDNewT, zDisp1K, zDisp1T, zDPut, zCatLP, zClear, zIxS, zNever, boolsD, zSetDef, zSortT, zBMD, tyD, zComp2, zlOne, zlNest, zCompDT, zAnyB, List.getElem?_cons_zero, List.getElem?_cons_succ, List.map_cons, List.map_nil, List.nil_append, List.cons_append, List.length_cons, List.length_nil, List.replicate_succ, List.replicate_zero, List.set_cons_zero, List.set_cons_succ, Option.join_some, Nat.reduceAdd, Nat.reduceSub, Nat.sub_self, Nat.zero_add, if_true, if_false, Bool.false_eq_true, Bool.not_true, Bool.not_false, true_and, and_true, beq_self_eq_true, String.reduceBEq, zLoop, List.length_map, List.length_set, updM_same, updM_updM, List.append_nil, Int.zero_add, Int.toNat_natCast, rangeD_len, pairsD_len, Nat.min_self, atI_zero, decide_true, decide_false, Bool.not_eq_true, bne_self_eq_false, $xs,*] $[$l]?)
local macro_rules | `(tactic| dsimp! only [$xs,*] $[$l]?) => `(tactic| simp only [zVar, zC, zOp, zII, zIC, zEq, zNe, scalZ, zIsN, isNonD, zSS, zTest, zBool, zChain, zAnd, zOr, zNot, zAndV, zNotV, zIfE, zNil, zCons, zTup, zLst, zLstP, zCB, z1, zLenD, z2I, zAbs, zListP, zTuple, itemsM, zIsInst, isD, zBM, tyZ, zAppend, zExtend, zPop, zPopAt, zSetI, zgSub, zNext, zSeq, zDrop, zRet, zIfS, zgName, zgNil, zgCons, zgTup, zAsg, zFor, zForM, zComp, zCompP, zAll, zBlock, zCall, zRaise, zstart, zEndsOf, ziTup, ziLst, ziRng1, ziRng2, ziEnumK, ziZip, seqK, zIx, zRangeP, zTruth, truD, zNoIf, zAllB, zGetR, zDIn, zMGet, lookD, nowK, keyD, zDNewT, zDisp1K, zDisp1T, zDPut, zCatLP, zClear, zIxS, zNever, boolsD, zSetDef, zSortT, zBMD, tyD, zComp2, zlOne, zlNest, zCompDT, zAnyB, List.getElem?_cons_zero, List.getElem?_cons_succ, List.map_cons, List.map_nil, List.nil_append, List.cons_append, List.length_cons, List.length_nil, List.replicate_succ, List.replicate_zero, List.set_cons_zero, List.set_cons_succ, Option.join_some, Nat.reduceAdd, Nat.reduceSub, Nat.sub_self, Nat.zero_add, if_true, if_false, Bool.false_eq_true, Bool.not_true, Bool.not_false, true_and, and_true, beq_self_eq_true, String.reduceBEq, List.length_map, List.length_set, updM_same, updM_updM, List.append_nil, Int.zero_add, Int.toNat_natCast, rangeD_len, pairsD_len, Nat.min_self, atI_zero, decide_true, decide_false, Bool.not_eq_true, bne_self_eq_false, $xs,*] $[$l]?)
namespace My
open PySem L2 PyProof.Rows
noncomputable def top (i : Nat) : Stmt := PySem.Challenge.pw_roadcall_k28_stable_pairs.main.body.getD i (.Pass ⟨0, 0, 0, 0⟩)
noncomputable abbrev fe : Stmt := top 4
noncomputable abbrev dh : Stmt := top 5
noncomputable abbrev jk : Stmt := top 8
noncomputable abbrev jl : Stmt := top 9
noncomputable abbrev iM : Stmt := top 10
noncomputable abbrev dI : Stmt := top 12
noncomputable abbrev iN : Stmt := top 13
noncomputable abbrev dW : Stmt := top 14
noncomputable abbrev dy : Stmt := top 15
noncomputable abbrev cY : Stmt := top 16
noncomputable abbrev dX : Stmt := top 18
noncomputable abbrev iO : Stmt := top 20
noncomputable abbrev fE : Stmt := top 21
noncomputable abbrev eZ : Stmt := top 22
noncomputable abbrev b8 : Stmt := top 23
noncomputable abbrev dJ : Stmt := top 24
noncomputable abbrev e8 : Stmt := top 25
noncomputable abbrev dY : Stmt := top 26
noncomputable abbrev gC : Stmt := top 27
noncomputable abbrev di : Stmt := top 28
noncomputable abbrev dz : Stmt := top 29
noncomputable abbrev wQ : Stmt := top 30
section
variable {P : Program} {w : World} {K : PySem.W.Frag} {mg : Str → Option Value} {base : Heap} {tb : da} {k : Nat} {f : Addr} {fd : FuncData} {ps : List Str}
theorem dM : aU ["_law_script", "_law_at", "_law_cell", "_law_mix", "_law_k"] ["_law_script", "_law_at"] (aj iO) := ⟨rfl, rfl, rfl, by decide +kernel, rfl, by decide +kernel, by decide +kernel⟩
theorem dZ : aU ["_law_bag_here", "_law_many", "_law_digit", "_law_number", "_law_room"] ["_law_bag_here", "_law_many"] (aj fE) := ⟨rfl, rfl, rfl, by decide +kernel, rfl, by decide +kernel, by decide +kernel⟩
theorem lu : aU ["_law_bag_here", "_law_many", "_law_free"] ["_law_bag_here", "_law_many"] (aj eZ) := ⟨rfl, rfl, rfl, by decide +kernel, rfl, by decide +kernel, by decide +kernel⟩
theorem bt : aU ["_law_bag_here", "_law_most", "_law_many", "_law_ways", "_law_kind", "_law_rows", "_law_order_here", "_law_period", "_law_stays", "_law_k", "_law_place", "_law_onward", "_law_goals_here", "_law_turns"] ["_law_bag_here", "_law_most"] (aj b8) := ⟨rfl, rfl, rfl, by decide +kernel, rfl, by decide +kernel, by decide +kernel⟩
noncomputable def HF : cU := fun ds M Q _ => ∃ (ns : List Int) (t : Int), ds = [.bw ns, .int t] ∧ ns.length ≤ 63 ∧ 0 ≤ t ∧ t ≤ 63 ∧ ∀ b, M b = none → Q (.ptr b) (av M b .cH)
noncomputable def CY : cU := fun ds M Q _ => ∃ (ns : List Int) (t : Int), ds = [.bw ns, .int t] ∧ ns.length ≤ 63 ∧ 0 ≤ t ∧ t ≤ 63 ∧ ∀ b c m, M b = none → 0 ≤ c → 0 ≤ m → Q (.ptr b) (av M b (.lst [.int c, .int m]))
theorem wR (D : Df K mg "_law_bag" iO ["_law_script", "_law_at"] f fd) (bl : Bl mg) : FnOk P w K mg base bc 1 f fd ["_law_script", "_law_at"] (aT P w K tb CY) := by
  refine dS D dM (fun ds M Q E hS => by obtain ⟨ns, t, e, _⟩ := hS; rw [e]; rfl) fun A outer s E Γ ds Q' E' hP hw hK ht hr hS => ?_
  obtain ⟨ns, t, e, hl, t0, t1, q⟩ := hS
  refine ⟨_, (ah (aQ (i := 2) dM.nd rfl (Or.inl rfl) aC)
    (ah (bU (bb kD (qv 1) (az (eB (K := K) rfl hK) rfl bl.len_ PySem.boot_len (aa (qv 0) af)) (aZ _))
      (aw (aQ (i := 2) dM.nd rfl (Or.inl rfl) (az JB rfl bl.abs_ Gr (aa (b0 (CO (K := K) rfl hK) (qv 0) (qv 1) (fun _ _ => rfl)) af))))
      qss_nil)
    (ah (aQ (i := 3) dM.nd rfl (Or.inl rfl) (bp fI (bp mL aC (qv 1)) aC))
    (ah (gz PassesOwn.never rfl (bY rfl bl.range_ (aa (az (tu rfl) rfl bl.min_ sL (aa (az (eB (K := K) rfl hK) rfl bl.len_ PySem.boot_len (aa (qv 0) af)) (aa aC af))) af)) (fun pj eP ew eK et => by have hP := hP.trans eP.symm; have hw := hw.trans ew.symm; have hK := hK.trans eK.symm; have ht := ht.trans et.symm; exact ⟨(aG (i := 4) dM.nd rfl (Or.inl rfl)), (aw (aQ (i := 3) dM.nd rfl (Or.inl rfl) (bp iK (bp fI (bp fI (bp mL (qv 3) aC) (bp iK (b0 (CO (K := K) rfl hK) (qv 0) (qv 4) (fun _ _ => rfl)) aC)) (qv 4)) aC)))⟩))
    (ah (bU (bb kD (qv 2) (bp JA aC aC) (aZ _))
      (aw (aQ (i := 2) dM.nd rfl (Or.inl rfl) aC))
      qss_nil)
    (aw (aP (mK (aa (qv 2) (aa (qv 3) af)))))))))), ?_⟩
  subst e
  refine JI (fun ρ M => M = Γ.M0 ∧ ∃ c m x : Int, ∃ x4, 0 ≤ c ∧ 0 ≤ m ∧ ρ = [some (.bw ns), some (.int t), some (.int c), some (.int m), x4]) (fun N hN => ?_) ?_
  · refine JH (fun ρ M => M = Γ.M0 ∧ ∃ c : Int, 0 ≤ c ∧ ρ = [some (.bw ns), some (.int t), some (.int c), none, none]) (fun N hN => ?_) ?_
    · simp! only []
      refine eS (fun h => ?_) (fun _ => hN _ _ ⟨rfl, 0, by omega, rfl⟩)
      have ht : t < (ns.length : Int) := of_decide_eq_true h
      obtain ⟨k, rfl⟩ := Int.eq_ofNat_of_zero_le t0
      rw [y1 (show k < ns.length by omega)]
      exact hN _ _ ⟨rfl, _, by split <;> omega, rfl⟩
    rintro ρ M ⟨rfl, c, hc, rfl⟩
    simp! only []
    refine ⟨.inl ⟨by decide, by decide⟩, by split <;> omega, by split <;> omega, ?_⟩
    refine dC (fun i ρ M => M = Γ.M0 ∧ ∃ m : Int, ∃ x4, 0 ≤ m ∧ ρ = [some (.bw ns), some (.int t), some (.int c), some (.int m), x4]) ⟨rfl, _, _, by omega, rfl⟩ (fun i d ρ M N2 hd hJ mq => ?_) (fun ρ M hJ => ?_)
    · obtain ⟨rfl, m, x4, hm, rfl⟩ := hJ
      obtain ⟨rfl, hi⟩ := cV hd
      have hi : i < ns.length := by split at hi <;> omega
      simp! only [y1 hi]
      exact ⟨.inr ⟨by decide, by decide⟩, by decide, by decide, mq _ _ ⟨rfl, _, _, Int.emod_nonneg _ (by decide), rfl⟩⟩
    · obtain ⟨rfl, m, x4, hm, rfl⟩ := hJ
      exact hN _ _ ⟨rfl, c, m, 0, x4, hc, hm, rfl⟩
  · rintro ρ M ⟨rfl, c, m, x, x4, hc, hm, rfl⟩
    simp! only []
    exact ⟨⟨by decide, by decide, by decide⟩, eS (fun _ => ⟨by decide, fun a ha => .inl (q a 0 m ha (by omega) hm)⟩) (fun _ => ⟨by decide, fun a ha => .inl (q a c m ha hc hm)⟩)⟩
theorem JO (G : FnOk P w K mg base bc k f fd ps (aT P w K tb CY)) : FnOk P w K mg base bc k f fd ps (aT P w K tb HF) := G.imp fun vs H Q E hS => by
  obtain ⟨β, ds, M, Q', E', eP, ew, eK, et, m, rs, ⟨ns, t, e, h1, h2, h3, h⟩, q, qe⟩ := hS
  refine ⟨β, ds, M, fun d M' => ∃ b c m, d = .ptr b ∧ M b = none ∧ 0 ≤ c ∧ 0 ≤ m ∧ M' = av M b (.lst [.int c, .int m]), fun _ _ => False, eP, ew, eK, et, m, rs, ⟨ns, t, e, h1, h2, h3, fun b c m h4 h5 h6 => ⟨b, c, m, rfl, h4, h5, h6, rfl⟩⟩, fun d M' v H' x r hQ => ?_, fun _ _ _ _ h => h.elim⟩
  obtain ⟨b, c, m', rfl, hb, hc, hm, rfl⟩ := hQ
  have hB := zk x.mz hc hm
  exact q _ _ _ _ (Ex.sealed hb x hB) (r.dom (iS M b _ _)) (h b hb)
noncomputable def pq : cU := fun ds M Q _ => ∃ (b : Addr) (n : Int), ds = [.ptr b, .int n] ∧ M b = some .cH ∧ 1 ≤ n ∧ n < 1073741824 ∧ ∀ d : Nat, (d : Int) < n → Q (.int (d : Nat)) M
noncomputable def zH : cU := fun ds M Q _ => ∃ (b : Addr) (n c m : Int), ds = [.ptr b, .int n] ∧ M b = some (.lst [.int c, .int m]) ∧ 0 ≤ c ∧ 0 ≤ m ∧ 1 ≤ n ∧ n < 1073741824 ∧ ∀ (d : Nat) (c m : Int), (d : Int) < n → 0 ≤ c → 0 ≤ m → Q (.int (d : Nat)) (av M b (.lst [.int c, .int m]))
theorem uU (D : Df K mg "_law_take" fE ["_law_bag_here", "_law_many"] f fd) : FnOk P w K mg base bc 1 f fd ["_law_bag_here", "_law_many"] (aT P w K tb zH) := by
  refine dS D dZ (fun ds M Q E hS => by obtain ⟨b, n, c, m, e, _⟩ := hS; rw [e]; rfl) fun A outer s E Γ ds Q' E' hP hw hK ht hr hS => ?_
  obtain ⟨b, n, c, m, e, hb, hc, hm, n1, n2, q⟩ := hS
  refine ⟨_, (ah (bU (bb Mj (b0 (dq (K := K) rfl) (qv 0) aC (fun _ _ => rfl)) aC (aZ _))
      (ah (aQ (i := 2) dZ.nd rfl (Or.inl rfl) (bp iK (b0 (dq (K := K) rfl) (qv 0) aC (fun _ _ => rfl)) (qv 1)))
    (ah (j4 (bp yR (b0 (dq (K := K) rfl) (qv 0) aC (fun _ _ => rfl)) (qv 1)) (j7 (qv 0) aC))
    (aw (aP (qv 2)))))
      qss_nil)
    (ah (aQ (i := 3) dZ.nd rfl (Or.inl rfl) aC)
    (ah (aQ (i := 4) dZ.nd rfl (Or.inl rfl) aC)
    (ah (nO PassesOwn.never (bb kD (qv 4) (qv 1) (aZ _))
      (ah (j4 (bp iK (bp fI (bp mL (b0 (dq (K := K) rfl) (qv 0) aC (fun _ _ => rfl)) aC) aC) aC) (j7 (qv 0) aC))
    (ah (aQ (i := 3) dZ.nd rfl (Or.inl rfl) (bp fI (bp mL (qv 3) aC) (bp iK (bp mL (bp yR (b0 (dq (K := K) rfl) (qv 0) aC (fun _ _ => rfl)) aC) aC) aC)))
    (aw (aQ (i := 4) dZ.nd rfl (Or.inl rfl) (bp mL (qv 4) aC))))))
    (aw (aP (bp iK (qv 3) (qv 1)))))))), ?_⟩
  subst e
  have N9 : ∀ x y : Int, c6 [Dv.int x, Dv.int y] 1 = some (.int y) := fun x y => eE (j := 1) rfl
  have Oa : ig 2 0 = some 0 := rfl
  have Ob : ig 2 1 = some 1 := rfl
  have fin : ∀ {i c m : Int} {M : Mh}, 0 ≤ c → 0 ≤ m → M = av Γ.M0 b (.lst [.int c, .int m]) → jS Γ.M0 Q' (.int (i % n)) M := fun {i c m M} hc hm e => by
    obtain ⟨d, hd⟩ := Int.eq_ofNat_of_zero_le (Int.emod_nonneg i (show n ≠ 0 by omega))
    have := Int.emod_lt_of_pos i (show 0 < n by omega)
    rw [hd, e]
    exact .inl (q d c m (by omega) hc hm)
  simp! only [hb, Oa]
  refine eS (fun h => ?_) (fun h => ?_)
  · refine ⟨by omega, ⟨by omega, n2⟩, fin (Int.ediv_nonneg hc (by omega)) hm rfl⟩
  · refine ⟨fun k ρ M => ∃ num room c m x2, 0 ≤ num ∧ 1 ≤ room ∧ 0 ≤ c ∧ 0 ≤ m ∧ k = (n - room).toNat ∧ ρ = [some (.ptr b), some (.int n), x2, some (.int num), some (.int room)] ∧ M = av Γ.M0 b (.lst [.int c, .int m]), ⟨_, 0, 1, c, m, _, by omega, by omega, hc, hm, rfl, rfl, (vG hb).symm⟩, ?_⟩
    rintro k ρ M ⟨num, room, c, m, x2, h1, h2, hc, hm, rfl, rfl, rfl⟩
    simp! only [N9, Ob, updM_same]
    refine eS (fun h => ?_) (fun h => ⟨by omega, fin hc hm rfl⟩)
    have h := of_decide_eq_true h
    have m3 : 0 ≤ (m * 48271 + 7919) % 2147483647 := Int.emod_nonneg _ (by decide)
    have n3 : 0 ≤ (m * 48271 + 7919) % 2147483647 / 8 * 69621 % 1073741789 := Int.emod_nonneg _ (by decide)
    refine ⟨.inr ⟨by decide, by decide⟩, by decide, .inr ⟨by decide, by decide⟩, ⟨by decide, by decide⟩, .inr ⟨by decide, by decide⟩, by decide, .inr ⟨by decide, by decide⟩, _, ?_, _, _, c, _, _, ?_, ?_, hc, m3, rfl, rfl, rfl⟩ <;> omega
theorem HG (G : FnOk P w K mg base bc k f fd ps (aT P w K tb zH)) : FnOk P w K mg base bc k f fd ps (aT P w K tb pq) := G.imp fun vs H Q E hS => by
  obtain ⟨β, ds, M, Q', E', eP, ew, eK, et, m, rs, ⟨b, n, e, hb, h1, h2, h⟩, q, qe⟩ := hS
  have eM := vG hb
  have d1 : ∀ o a, (M a).isSome = (av M b o a).isSome := fun o a => by have := iS M b .cH o a; rwa [eM] at this
  rw [← eM] at m
  obtain ⟨c, m0, hc, hm, hO⟩ := Hl m
  refine ⟨β, ds, av M b (.lst [.int c, .int m0]), fun d M' => ∃ (k : Nat) (c' m' : Int), d = .int (k : Nat) ∧ (k : Int) < n ∧ 0 ≤ c' ∧ 0 ≤ m' ∧ M' = av M b (.lst [.int c', .int m']), fun _ _ => False, eP, ew, eK, et, m.chg hO, ⟨rs.len, fun i v d x y => (rs.at' i v d x y).dom (d1 _)⟩, ⟨b, n, c, m0, e, updM_same, hc, hm, h1, h2, fun d c' m' h3 h4 h5 => ⟨d, c', m', rfl, h3, h4, h5, updM_updM⟩⟩, fun d M' v H' x r hQ => ?_, fun _ _ _ _ h => h.elim⟩
  obtain ⟨k, c', m', rfl, hk, B8, lH, rfl⟩ := hQ
  have hB := zk x.mz B8 lH
  have x2 := Ex.chg (o2 := .cH) x hB
  rw [eM] at x2
  exact q _ _ _ _ x2 (r.dom fun a => (d1 _ a).symm) (h k hk)
theorem rp {α β : Type} (f : α → β) : ∀ (l : List α) (i : Nat), (l.map f).eraseIdx i = (l.eraseIdx i).map f
  | [], _ => rfl
  | _ :: _, 0 => rfl
  | a :: l, i + 1 => by
    show f a :: (l.map f).eraseIdx i = f a :: (l.eraseIdx i).map f
    rw [rp f l i]
theorem iJ {α : Type} : ∀ (l : List α) (i : Nat) (h : i < l.length), (l[i] :: l.eraseIdx i).Perm l
  | a :: l, 0, _ => .refl _
  | a :: l, i + 1, h => by
    have h' : i < l.length := by simpa using h
    show (l[i] :: a :: l.eraseIdx i).Perm (a :: l)
    exact (List.Perm.swap a l[i] _).trans ((iJ l i h').cons a)
structure eG (n : Nat) (os : List Int) : Prop where
  perm : os.Perm ((List.range n).map fun i : Nat => (i : Int))
theorem eG.len {n : Nat} {os : List Int} (h : eG n os) : os.length = n := by
  have := h.perm.length_eq
  simpa using this
theorem eG.mem {n : Nat} {os : List Int} (h : eG n os) {x : Int} (hx : x ∈ os) : 0 ≤ x ∧ x < n := by
  have := h.perm.mem_iff.mp hx
  obtain ⟨i, hi, rfl⟩ := List.mem_map.mp this
  have := List.mem_range.mp hi
  omega
theorem eG.at {n : Nat} {os : List Int} (h : eG n os) {i : Nat} (hi : i < n) : ∃ x : Int, c6 (os.map Dv.int) (i : Int) = some (.int x) ∧ 0 ≤ x ∧ x < n := by
  have hl : i < os.length := by rw [h.len]; exact hi
  exact ⟨os[i], eE (by rw [List.getElem?_map, List.getElem?_eq_getElem hl]; rfl), h.mem (List.getElem_mem hl)⟩
noncomputable def zI : cU := fun ds M Q _ => ∃ (b : Addr) (n : Nat), ds = [.ptr b, .int (n : Nat)] ∧ M b = some .cH ∧ n ≤ 100 ∧ ∀ os, eG n os → Q (jC os) M
noncomputable def CZ : cU := fun ds M Q _ => ∃ (b : Addr) (most : Nat), ds = [.ptr b, .int (most : Nat)] ∧ M b = some .cH ∧ 1 ≤ most ∧ most ≤ 9 ∧ ∀ ae n, dQ ae n → ae.length ≤ most → Q (eN ae) M
theorem En {n d : Nat} (h : d < n) : seqIndex? (d : Int) n = some d := (pL (n := n) (i := (d : Int)) (j := d) (by unfold ig; rw [if_pos (by omega), if_pos (by omega)]; rfl)).1
theorem t6 {f1 : Addr} {cW : FuncData} (D : Df K mg "_law_order" eZ ["_law_bag_here", "_law_many"] f fd)
    (ax : Df K mg "_law_take" fE ["_law_bag_here", "_law_many"] f1 cW) (bK : FnOk P w K mg base bc 1 f1 cW ["_law_bag_here", "_law_many"] (aT P w K tb pq)) (bl : Bl mg) : FnOk P w K mg base bc 2 f fd ["_law_bag_here", "_law_many"] (aT P w K tb zI) := by
  refine dS D lu (fun ds M Q E hS => by obtain ⟨b, n, e, _⟩ := hS; rw [e]; rfl) fun A outer s E Γ ds Q' E' hP hw hK ht hr hS => ?_
  obtain ⟨b, n, e, hb, hn, q⟩ := hS
  refine ⟨_, (ah (aQ (i := 2) lu.nd rfl (Or.inr rfl) (rF rfl rfl bl.list_ rfl bl.range_ (qv 1)))
    (aw (aP (bq (N' := ["_law_k", "_law_free", "_law_bag_here", "_law_many"]) (tn := 1) (idx := [2, 0, 1]) rfl (show aB ["_law_bag_here", "_law_many", "_law_free"] (aj eZ) _ ["_law_k", "_law_free", "_law_bag_here", "_law_many"] 1 [2, 0, 1] from by decide +kernel) (bY rfl bl.range_ (aa (qv 1) af)) (fun _ _ _ _ _ => (aG (i := 0) (show List.Nodup [("_law_k" : Str), ("_law_free" : Str), ("_law_bag_here" : Str), ("_law_many" : Str)] from by decide +kernel) rfl (Or.inl rfl))) (fun _ _ _ _ _ => bB) (fun _ _ _ _ _ => (mO (K := K) rfl PySem.F.plainAttrs_list PySem.F.slot_list_pop PySem.F.type_list_pop DZ (qv 1) (aa (aH bK (hr.mono (by decide)) rfl ax.mg ax.fn.kp ax.bd aW hP hw hK ht XR.none (aa (qv 2) (aa (bp Jz (qv 3) (qv 0)) af))) af))))))), ?_⟩
  subst e
  simp! only []
  refine ⟨by omega, by omega, fun a ha => ⟨by omega, by omega, ?_⟩⟩
  have K4 : b ≠ a := fun z => by rw [z, ha] at hb; cases hb
  refine ⟨Nat.lt_of_le_of_lt hn (by decide), fP (acc := []) (fun acc τ M => ∃ rest got : List Int, acc = got.map Dv.int ∧ (∃ x, τ = [x, some (.ptr a), some (.ptr b), some (.int (n : Nat))]) ∧ M a = some (.lst (rest.map .int)) ∧ (∀ c, c ≠ a → M c = Γ.M0 c) ∧ (got ++ rest).Perm ((List.range n).map fun i : Nat => (i : Int))) ⟨(List.range n).map fun i : Nat => (i : Int), [], rfl, ⟨_, rfl⟩, by rw [updM_same, jb, List.map_map]; rfl, fun c hc => ao hc, .refl _⟩ (fun i d acc τ M hd hl ⟨rest, got, e1, ⟨x, e2⟩, h1, h2, h3⟩ R hR => ?_) (fun ys τ M hl ⟨rest, got, e1, ⟨x, e2⟩, h1, h2, h3⟩ => ?_)⟩
  · subst e1 e2
    obtain ⟨rfl, hi⟩ := cV hd
    have hlen : got.length + rest.length = n := by have := h3.length_eq; simpa using this
    have hl : got.length = i := by simpa using hl
    simp! only []
    refine ⟨by rw [h1]; trivial, b, _, rfl, (by rw [h2 b K4]; exact hb), by omega, by omega, fun d hd => ?_⟩
    have HH : d < rest.length := by omega
    simp only [h1, List.length_map, En HH, List.getElem?_map, List.getElem?_eq_getElem HH, Option.map_some]
    refine ⟨by omega, by omega, hR _ _ _ ⟨rest.eraseIdx d, got ++ [rest[d]], by rw [List.map_append]; rfl, ⟨_, rfl⟩, by rw [updM_same, rp], fun c hc => by rw [ao hc]; exact h2 c hc, ?_⟩⟩
    refine List.Perm.trans ?_ h3
    rw [List.append_assoc]
    exact List.Perm.append_left got (iJ rest d HH)
  · simp only [List.nil_append] at e1
    subst e1
    have hlen : got.length + rest.length = n := by have := h3.length_eq; simpa using this
    have hl : got.length = n := by simpa [rangeD_len] using hl
    have HI : rest = [] := List.eq_nil_of_length_eq_zero (by omega)
    rw [HI, List.append_nil] at h3
    exact md (fun c o e => by rw [h2 c (fun z => by rw [z, ha] at e; cases e)]; exact e) (.lst (gT _)) (q got ⟨h3⟩)
end
section
variable {P : Program} {w : World} {K : PySem.W.Frag} {mg : Str → Option Value} {base : Heap} {tb : da}
noncomputable def fg (n ways : Nat) (row : List Int) : Prop := row.length = ways ∧ ∀ x ∈ row, 0 ≤ x ∧ x < (n : Int)
structure cK (M0 M : Mh) (r : Addr) (as : List Addr) (n ways : Nat) : Prop where
  kp : Keeps M0 M
  r0 : M0 r = none
  rm : M r = some (.lst (as.map .ptr))
  fr : ∀ a ∈ as, M0 a = none ∧ a ≠ r
  len : as.length = n
  row : ∀ a ∈ as, ∃ row : List Int, M a = some (.lst (row.map .int)) ∧ fg n ways row
  pin : ∀ b o, M b = some o → M0 b = some o ∨ b = r ∨ (∃ row : List Int, o = .lst (row.map .int)) ∨ ∃ bs : List Addr, o = .lst (bs.map .ptr) ∧ ∀ c ∈ bs, c ≠ r ∧ ∃ o, M c = some o
theorem cK.HJ {M0 M : Mh} {r : Addr} {as : List Addr} {n ways : Nat} (h : cK M0 M r as n ways) {a : Addr} (ha : a ∈ as) {row : List Int} (o : fg n ways row) : cK M0 (av M a (.lst (row.map .int))) r as n ways := by
  obtain ⟨f0, f1⟩ := h.fr a ha
  refine ⟨.upd f0 h.kp, h.r0, by rw [ao (Ne.symm f1)]; exact h.rm, h.fr, h.len, fun c hc => ?_, fun b u e => ?_⟩
  · by_cases z : c = a
    · subst z; exact ⟨row, updM_same, o⟩
    · rw [ao z]; exact h.row c hc
  · by_cases z : b = a
    · subst z; rw [updM_same] at e; cases e; exact .inr (.inr (.inl ⟨row, rfl⟩))
    · rw [ao z] at e
      rcases h.pin b u e with q | q | q | ⟨bs, q1, q2⟩
      · exact .inl q
      · exact .inr (.inl q)
      · exact .inr (.inr (.inl q))
      · refine .inr (.inr (.inr ⟨bs, q1, fun c hc => ⟨(q2 c hc).1, ?_⟩⟩))
        by_cases z : c = a
        · subst z; exact ⟨_, updM_same⟩
        · rw [ao z]; exact (q2 c hc).2
theorem cK.put {M0 M : Mh} {r : Addr} {as : List Addr} {n ways : Nat} (h : cK M0 M r as n ways) {a : Addr} (ha : M a = none) {row : List Int} (o : fg n ways row) {i : Nat} (hi : i < n) : cK M0 (av (av M a (.lst (row.map .int))) r (.lst ((as.map .ptr).set i (.ptr a)))) r (as.set i a) n ways := by
  have nr : a ≠ r := fun z => by rw [z, h.rm] at ha; cases ha
  have a0 : M0 a = none := by
    cases e : M0 a with
    | none => rfl
    | some u => rw [h.kp a u e] at ha; cases ha
  have Oc : a ∉ as := fun z => by obtain ⟨row, e, _⟩ := h.row a z; rw [ha] at e; cases e
  refine ⟨.upd h.r0 (.upd a0 h.kp), h.r0, by rw [updM_same, List.map_set], fun c hc => ?_, by rw [List.length_set]; exact h.len, fun c hc => ?_, fun b u e => ?_⟩
  · rcases List.mem_or_eq_of_mem_set hc with z | z
    · exact h.fr c z
    · rw [z]; exact ⟨a0, nr⟩
  · rcases List.mem_or_eq_of_mem_set hc with z | z
    · have n1 := (h.fr c z).2
      have n2 : c ≠ a := fun e => Oc (e ▸ z)
      rw [ao n1, ao n2]; exact h.row c z
    · rw [z, ao nr, updM_same]; exact ⟨row, rfl, o⟩
  · by_cases z : b = r
    · exact .inr (.inl z)
    · rw [ao z] at e
      by_cases z2 : b = a
      · subst z2; rw [updM_same] at e; cases e; exact .inr (.inr (.inl ⟨row, rfl⟩))
      · rw [ao z2] at e
        rcases h.pin b u e with q | q | q | ⟨bs, q1, q2⟩
        · exact .inl q
        · exact .inr (.inl q)
        · exact .inr (.inr (.inl q))
        · refine .inr (.inr (.inr ⟨bs, q1, fun c hc => ⟨(q2 c hc).1, ?_⟩⟩))
          rw [ao (q2 c hc).1]
          by_cases z : c = a
          · subst z; exact ⟨_, updM_same⟩
          · rw [ao z]; exact (q2 c hc).2
structure jm (M0 M : Mh) : Prop where
  kp : Keeps M0 M
  pin : ∀ b o, M b = some o → M0 b = some o ∨ (∃ row : List Int, o = .lst (row.map .int)) ∨ ∃ bs : List Addr, o = .lst (bs.map .ptr) ∧ ∀ c ∈ bs, ∃ o, M c = some o
theorem jm.refl {M0 : Mh} : jm M0 M0 := ⟨.refl, fun b o e => .inl e⟩
theorem iP {M0 M : Mh} (h : Keeps M0 M) {a : Addr} (ha : M a = none) : M0 a = none := by
  cases e : M0 a with
  | none => rfl
  | some u => rw [h a u e] at ha; cases ha
theorem jm.row {M0 M : Mh} (h : jm M0 M) {a : Addr} (ha : M a = none) (row : List Int) : jm M0 (av M a (.lst (row.map .int))) := by
  refine ⟨.upd (iP h.kp ha) h.kp, fun b o e => ?_⟩
  by_cases z : b = a
  · subst z; rw [updM_same] at e; cases e; exact .inr (.inl ⟨row, rfl⟩)
  · rw [ao z] at e
    rcases h.pin b o e with q | q | ⟨bs, q1, q2⟩
    · exact .inl q
    · exact .inr (.inl q)
    · refine .inr (.inr ⟨bs, q1, fun c hc => ?_⟩)
      by_cases z : c = a
      · subst z; exact ⟨_, updM_same⟩
      · rw [ao z]; exact q2 c hc
theorem cK.own {M0 M : Mh} {r : Addr} {as : List Addr} {n ways : Nat} (h : cK M0 M r as n ways) : jm M0 M := ⟨h.kp, fun b o e => by
  rcases h.pin b o e with q | q | q | ⟨bs, q1, q2⟩
  · exact .inl q
  · subst q; rw [h.rm] at e; cases e
    exact .inr (.inr ⟨as, rfl, fun c hc => let ⟨row, e, _⟩ := h.row c hc; ⟨_, e⟩⟩)
  · exact .inr (.inl q)
  · exact .inr (.inr ⟨bs, q1, fun c hc => (q2 c hc).2⟩)⟩
theorem cK.mk' {M0 M : Mh} {r : Addr} {as : List Addr} {n ways : Nat} (h : jm M0 M) (hr : M r = none) (hl : as.length = n) (ha : ∀ a ∈ as, M0 a = none ∧ ∃ row : List Int, M a = some (.lst (row.map .int)) ∧ fg n ways row) : cK M0 (av M r (.lst (as.map .ptr))) r as n ways := by
  have ne : ∀ {c o}, M c = some o → c ≠ r := fun e z => by rw [z, hr] at e; cases e
  refine ⟨.upd (iP h.kp hr) h.kp, iP h.kp hr, updM_same, fun a h => ?_, hl, fun a h => ?_, fun b o e => ?_⟩
  · obtain ⟨h0, row, e, _⟩ := ha a h
    exact ⟨h0, ne e⟩
  · obtain ⟨h0, row, e, o⟩ := ha a h
    exact ⟨row, by rw [ao (ne e)]; exact e, o⟩
  · by_cases z : b = r
    · exact .inr (.inl z)
    · rw [ao z] at e
      rcases h.pin b o e with q | q | ⟨bs, q1, q2⟩
      · exact .inl q
      · exact .inr (.inr (.inl q))
      · refine .inr (.inr (.inr ⟨bs, q1, fun c hc => ?_⟩))
        obtain ⟨u, e⟩ := q2 c hc
        exact ⟨ne e, u, by rw [ao (ne e)]; exact e⟩
theorem rW {g : bL} {te : aJ} {n : Nat} {M1 : Mh} (T : aA → Prop) {ds : List Dv} {τ : aA} {Q : List Dv → Mh → Prop} (h0 : T τ) (h : ∀ d ∈ ds, ∀ τ, T τ → ∀ R : aA → ZK, (∀ (x : Int) ay, 0 ≤ x → x < (n : Int) → T ay → R ay (.int x) M1) → g d τ M1 fun ay M2 => te ay M2 (R ay)) (q : ∀ row : List Int, row.length = ds.length → (∀ x ∈ row, 0 ≤ x ∧ x < (n : Int)) → Q (row.map .int) M1) : fO g zNoIf te ds τ M1 Q := by
  refine fP (acc := []) (fun acc τ M => ∃ row : List Int, acc = row.map Dv.int ∧ (∀ x ∈ row, 0 ≤ x ∧ x < (n : Int)) ∧ T τ ∧ M = M1) ⟨[], rfl, (fun _ h => nomatch h), h0, rfl⟩ (fun i d acc τ M hd _ ⟨row, e1, hr, ht, e2⟩ R hR => ?_) (fun ys τ M hl ⟨row, e1, hr, ht, e2⟩ => ?_)
  · subst e1 e2
    refine h d (List.mem_of_getElem? hd) τ ht R fun x ay x0 x1 t2 => hR _ _ _ ⟨row ++ [x], by rw [List.map_append]; rfl, fun y hy => ?_, t2, rfl⟩
    rcases List.mem_append.mp hy with z | z
    · exact hr y z
    · rw [List.mem_singleton] at z; rw [z]; exact ⟨x0, x1⟩
  · rw [List.nil_append] at e1
    subst e1 e2
    exact q row (by simpa using hl) hr
noncomputable def d6 (x : Option Dv) : Prop := ∀ M d, x = some d → Pin M d
theorem d6.none : d6 none := fun _ _ h => nomatch h
theorem d6.int (i : Int) : d6 (some (.int i)) := fun _ _ h => by cases h; exact .int i
theorem d6.lI (ns : List Int) : d6 (some (jC ns)) := fun _ _ h => by cases h; exact .lst (gT ns)
theorem rq {M0 M : Mh} {as : List Addr} {n ways : Nat} {T : Prop} (hO : jm M0 M) (ha : ∀ a ∈ as, M0 a = none ∧ ∃ row : List Int, M a = some (.lst (row.map .int)) ∧ fg n ways row) {a : Addr} (h : M a = none) {row : List Int} (o : fg n ways row) (t : T) :
    ∃ K5 : List Addr, as.map Dv.ptr ++ [Dv.ptr a] = K5.map Dv.ptr ∧ T ∧ jm M0 (av M a (.lst (row.map .int))) ∧ ∀ c ∈ K5, M0 c = none ∧ ∃ wU : List Int, av M a (.lst (row.map .int)) c = some (.lst (wU.map .int)) ∧ fg n ways wU := by
  refine ⟨as ++ [a], by rw [List.map_append]; rfl, t, hO.row h row, fun c hc => ?_⟩
  rcases List.mem_append.mp hc with z | z
  · obtain ⟨h0, wU, e, o'⟩ := ha c z
    have ne : c ≠ a := fun q => by rw [q, h] at e; cases e
    exact ⟨h0, wU, by rw [ao ne]; exact e, o'⟩
  · rw [List.mem_singleton] at z
    subst z
    exact ⟨iP hO.kp h, row, updM_same, o⟩
theorem mV {n d : Nat} (h : d < n) : ig n (d : Int) = some d := by unfold ig; rw [if_pos (by omega), if_pos (by omega)]; rfl
theorem t7 (row : List Int) (t : Nat) (x : Int) : (row.map Dv.int).set t (.int x) = (row.set t x).map Dv.int := by rw [List.map_set]
theorem fg.set {n ways : Nat} {row : List Int} (h : fg n ways row) {t : Nat} {x : Int} (x0 : 0 ≤ x) (x1 : x < (n : Int)) : fg n ways (row.set t x) := ⟨by rw [List.length_set]; exact h.1, fun y hy => by
  rcases List.mem_or_eq_of_mem_set hy with z | z
  · exact h.2 y z
  · rw [z]; exact ⟨x0, x1⟩⟩
noncomputable def pw (os : List Int) : Dv → Int | .int j => os.getD j.toNat 0 | _ => 0
theorem t9 {os : List Int} {j : Nat} {x : Int} (h : c6 (os.map Dv.int) (j : Int) = some (.int x)) : pw os (.int (j : Nat)) = x := by
  by_cases hj : j < os.length
  · rw [eE (j := j) (v := Dv.int os[j]) (by rw [List.getElem?_map, List.getElem?_eq_getElem hj]; rfl)] at h
    cases h
    show os.getD (Int.toNat (j : Int)) 0 = _
    rw [Int.toNat_natCast, List.getD_eq_getElem?_getD, List.getElem?_eq_getElem hj]; rfl
  · unfold c6 ig at h
    rw [if_pos (by omega), if_neg (by simp; omega)] at h
    cases h
noncomputable def BC (per i : Nat) : Dv → Bool | .int j => decide (j % (per : Int) = ((i : Int) + 1) % (per : Int)) | _ => false
theorem BD {n per i : Nat} {os : List Int} (mr : eG n os) (p1 : 1 ≤ per) (pn : per ≤ n) : ∃ gs : List Int, ((cq 0 n).filter (BC per i)).map (fun d => Dv.int (pw os d)) = gs.map Dv.int ∧ 1 ≤ gs.length ∧ gs.length ≤ n ∧ ∀ x ∈ gs, 0 ≤ x ∧ x < (n : Int) := by
  refine ⟨((cq 0 n).filter (BC per i)).map (pw os), by rw [List.map_map]; rfl, ?_, ?_, fun x hx => ?_⟩
  · rw [List.length_map]
    refine List.length_pos_of_mem (a := Dv.int (((i + 1) % per : Nat) : Int)) (List.mem_filter.mpr ⟨?_, ?_⟩)
    · have : (i + 1) % per < per := Nat.mod_lt _ (by omega)
      exact List.mem_of_getElem? (i := (i + 1) % per) (by rw [cq, List.getElem?_map, List.getElem?_range (by omega)]; simp)
    · show decide _ = true
      rw [decide_eq_true_eq]
      push_cast
      exact Int.emod_emod_of_dvd _ (Int.dvd_refl _)
  · rw [List.length_map]
    exact Nat.le_trans (List.length_filter_le _ _) (by rw [rangeD_len]; exact Nat.le_refl _)
  · obtain ⟨d, hd, rfl⟩ := List.mem_map.mp hx
    obtain ⟨j, hj, rfl⟩ := oR (List.mem_filter.mp hd).1
    rw [Int.zero_add]
    obtain ⟨gx, jH, g0, g1⟩ := mr.at hj
    rw [t9 jH]
    exact ⟨g0, g1⟩
theorem wV {f f1 f2 : Addr} {fd cW fd2 : FuncData} (D : Df K mg "_law_net" b8 ["_law_bag_here", "_law_most"] f fd)
    (ax : Df K mg "_law_take" fE ["_law_bag_here", "_law_many"] f1 cW) (bK : FnOk P w K mg base bc 1 f1 cW ["_law_bag_here", "_law_many"] (aT P w K tb pq))
    (b9 : Df K mg "_law_order" eZ ["_law_bag_here", "_law_many"] f2 fd2) (mw : FnOk P w K mg base bc 2 f2 fd2 ["_law_bag_here", "_law_many"] (aT P w K tb zI)) (bl : Bl mg) : FnOk P w K mg base bc 3 f fd ["_law_bag_here", "_law_most"] (aT P w K tb CZ) := by
  refine dS D bt (fun ds M Q E hS => by obtain ⟨b, n, e, _⟩ := hS; rw [e]; rfl) fun A outer s E Γ ds Q' E' hP hw hK ht hr hS => ?_
  obtain ⟨b, most, e, hb, h1, h9, q⟩ := hS
  refine ⟨_, (ah (aQ (i := 2) bt.nd rfl (Or.inr rfl) (bp fI aC (aH bK (hr.mono (by decide)) rfl ax.mg ax.fn.kp ax.bd aW hP hw hK ht XR.none (aa (qv 0) (aa (qv 1) af)))))
    (ah (aQ (i := 3) bt.nd rfl (Or.inr rfl) (bp fI aC (aH bK (hr.mono (by decide)) rfl ax.mg ax.fn.kp ax.bd aW hP hw hK ht XR.none (aa (qv 0) (aa aC af)))))
    (ah (aQ (i := 4) bt.nd rfl (Or.inl rfl) (aH bK (hr.mono (by decide)) rfl ax.mg ax.fn.kp ax.bd aW hP hw hK ht XR.none (aa (qv 0) (aa aC af))))
    (ah (uO (i := 5) bt.nd rfl rfl (N' := ["_law_place", "_law_bag_here", "_law_many", "_law_ways"]) (tn := 1) (idx := [0, 2, 3]) rfl (show aB ["_law_bag_here", "_law_most", "_law_many", "_law_ways", "_law_kind", "_law_rows", "_law_order_here", "_law_period", "_law_stays", "_law_k", "_law_place", "_law_onward", "_law_goals_here", "_law_turns"] (aj b8) _ ["_law_place", "_law_bag_here", "_law_many", "_law_ways"] 1 [0, 2, 3] from by decide +kernel) (bY rfl bl.range_ (aa (qv 2) af)) (fun _ _ _ _ _ => (aG (i := 0) (show List.Nodup [("_law_place" : Str), ("_law_bag_here" : Str), ("_law_many" : Str), ("_law_ways" : Str)] from by decide +kernel) rfl (Or.inl rfl))) (fun _ _ _ _ _ => bB) (fun _ _ _ _ _ => (gA (N' := ["_law_road", "_law_bag_here", "_law_many"]) (tn := 1) (idx := [1, 2]) rfl (aB.rel (show aB ["_law_place", "_law_bag_here", "_law_many", "_law_ways"] _ _ ["_law_road", "_law_bag_here", "_law_many"] 1 [1, 2] from by decide +kernel)) (bY rfl bl.range_ (aa (qv 3) af)) (fun _ _ _ _ _ => (aG (i := 0) (show List.Nodup [("_law_road" : Str), ("_law_bag_here" : Str), ("_law_many" : Str)] from by decide +kernel) rfl (Or.inl rfl))) (fun _ _ _ _ _ => bB) (fun _ _ _ _ _ => (aH bK (hr.mono (by decide)) rfl ax.mg ax.fn.kp ax.bd aW hP hw hK ht XR.none (aa (qv 1) (aa (qv 2) af)))))))
    (ah (aQ (i := 6) bt.nd rfl (Or.inr rfl) (aH mw (hr.mono (by decide)) rfl b9.mg b9.fn.kp b9.bd aW hP hw hK ht XR.none (aa (qv 0) (aa (qv 2) af))))
    (ah (aQ (i := 7) bt.nd rfl (Or.inr rfl) (bp fI aC (aH bK (hr.mono (by decide)) rfl ax.mg ax.fn.kp ax.bd aW hP hw hK ht XR.none (aa (qv 0) (aa (qv 2) af)))))
    (ah (aQ (i := 8) bt.nd rfl (Or.inr rfl) (aH bK (hr.mono (by decide)) rfl ax.mg ax.fn.kp ax.bd aW hP hw hK ht XR.none (aa (qv 0) (aa aC af))))
    (ah (gz PassesOwn.never rfl (D0 true (K := K) rfl rfl bl.enumerate_ (qv 6)) (fun pj eP ew eK et => by have hP := hP.trans eP.symm; have hw := hw.trans ew.symm; have hK := hK.trans eK.symm; have ht := ht.trans et.symm; exact ⟨(ja (n := 2) rfl (b7 (aG (i := 9) bt.nd rfl (Or.inr rfl)) (b7 (aG (i := 10) bt.nd rfl (Or.inr rfl)) gQ))), (ah (aQ (i := 11) bt.nd rfl (Or.inr rfl) (b0 (dq (K := K) rfl) (qv 6) (bp iK (bp fI (qv 9) aC) (qv 2)) (fun _ _ => rfl)))
    (ah (bU (sW kD kD aC (qv 4) aC)
      (aw (j4 (qv 11) (j7 (b0 (dq (K := K) rfl) (qv 5) (qv 10) (fun _ _ => rfl)) (aH bK (hr.mono (by decide)) rfl ax.mg ax.fn.kp ax.bd aW hP hw hK ht XR.none (aa (qv 0) (aa (qv 3) af))))))
      qss_nil)
    (ah (bU (bb kG (qv 4) aC (aZ _))
      (ah (aQ (i := 12) bt.nd rfl (Or.inr rfl) (bq (N' := ["_law_j", "_law_order_here", "_law_period", "_law_k"]) (tn := 1) (idx := [6, 7, 9]) rfl (show aB ["_law_bag_here", "_law_most", "_law_many", "_law_ways", "_law_kind", "_law_rows", "_law_order_here", "_law_period", "_law_stays", "_law_k", "_law_place", "_law_onward", "_law_goals_here", "_law_turns"] (aj b8) _ ["_law_j", "_law_order_here", "_law_period", "_law_k"] 1 [6, 7, 9] from by decide +kernel) (bY rfl bl.range_ (aa (qv 2) af)) (fun _ _ _ _ _ => (aG (i := 0) (show List.Nodup [("_law_j" : Str), ("_law_order_here" : Str), ("_law_period" : Str), ("_law_k" : Str)] from by decide +kernel) rfl (Or.inl rfl))) (fun _ _ _ _ _ => (j6 (bb kG (bp iK (qv 0) (qv 2)) (bp iK (bp fI (qv 3) aC) (qv 2)) (aZ _)))) (fun _ _ _ _ _ => (b0 (dq (K := K) rfl) (qv 1) (qv 0) (fun _ _ => rfl)))))
    (aw (j4 (gA (N' := ["_law_road", "_law_goals_here", "_law_bag_here"]) (tn := 1) (idx := [12, 0]) rfl (show aB ["_law_bag_here", "_law_most", "_law_many", "_law_ways", "_law_kind", "_law_rows", "_law_order_here", "_law_period", "_law_stays", "_law_k", "_law_place", "_law_onward", "_law_goals_here", "_law_turns"] (aj b8) _ ["_law_road", "_law_goals_here", "_law_bag_here"] 1 [12, 0] from by decide +kernel) (bY rfl bl.range_ (aa (qv 3) af)) (fun _ _ _ _ _ => (aG (i := 0) (show List.Nodup [("_law_road" : Str), ("_law_goals_here" : Str), ("_law_bag_here" : Str)] from by decide +kernel) rfl (Or.inl rfl))) (fun _ _ _ _ _ => bB) (fun _ _ _ _ _ => (b0 (dq (K := K) rfl) (qv 1) (aH bK (hr.mono (by decide)) rfl ax.mg ax.fn.kp ax.bd aW hP hw hK ht XR.none (aa (qv 2) (aa (az (eB (K := K) rfl hK) rfl bl.len_ PySem.boot_len (aa (qv 1) af)) af))) (fun _ _ => rfl)))) (j7 (qv 5) (qv 10)))))
      qss_nil)
    (aw (bU (bb kG (qv 4) aC (aZ _))
      (aw (j4 (bp (Ec (K := K) rfl) (sY (aa (qv 11) af)) (bq (N' := ["_law_road", "_law_stays", "_law_onward", "_law_place"]) (tn := 1) (idx := [8, 11, 10]) rfl (show aB ["_law_bag_here", "_law_most", "_law_many", "_law_ways", "_law_kind", "_law_rows", "_law_order_here", "_law_period", "_law_stays", "_law_k", "_law_place", "_law_onward", "_law_goals_here", "_law_turns"] (aj b8) _ ["_law_road", "_law_stays", "_law_onward", "_law_place"] 1 [8, 11, 10] from by decide +kernel) (yN rfl bl.range_ (aa aC (aa (qv 3) af))) (fun _ _ _ _ _ => (aG (i := 0) (show List.Nodup [("_law_road" : Str), ("_law_stays" : Str), ("_law_onward" : Str), ("_law_place" : Str)] from by decide +kernel) rfl (Or.inl rfl))) (fun _ _ _ _ _ => bB) (fun _ _ _ _ _ => (b0 (dq (K := K) rfl) (sY (aa (qv 2) (aa (qv 3) af))) (qv 1) (fun _ _ => rfl))))) (j7 (qv 5) (qv 10))))
      qss_nil)))))⟩))
    (ah (bU (bb kG (qv 4) aC (aZ _))
      (ah (aQ (i := 13) bt.nd rfl (Or.inr rfl) (bq (N' := ["_law_road", "_law_bag_here", "_law_many"]) (tn := 1) (idx := [0, 2]) rfl (show aB ["_law_bag_here", "_law_most", "_law_many", "_law_ways", "_law_kind", "_law_rows", "_law_order_here", "_law_period", "_law_stays", "_law_k", "_law_place", "_law_onward", "_law_goals_here", "_law_turns"] (aj b8) _ ["_law_road", "_law_bag_here", "_law_many"] 1 [0, 2] from by decide +kernel) (bY rfl bl.range_ (aa (qv 3) af)) (fun _ _ _ _ _ => (aG (i := 0) (show List.Nodup [("_law_road" : Str), ("_law_bag_here" : Str), ("_law_many" : Str)] from by decide +kernel) rfl (Or.inl rfl))) (fun _ _ _ _ _ => bB) (fun _ _ _ _ _ => (aH mw (hr.mono (by decide)) rfl b9.mg b9.fn.kp b9.bd aW hP hw hK ht XR.none (aa (qv 1) (aa (qv 2) af))))))
    (aw (tM (i := 5) bt.nd rfl rfl (N' := ["_law_place", "_law_turns"]) (tn := 1) (idx := [13]) rfl (show dG ["_law_bag_here", "_law_most", "_law_many", "_law_ways", "_law_kind", "_law_rows", "_law_order_here", "_law_period", "_law_stays", "_law_k", "_law_place", "_law_onward", "_law_goals_here", "_law_turns"] (aj b8) _ ["_law_place", "_law_turns"] 1 [13] from by decide +kernel) (bY rfl bl.range_ (aa (qv 2) af)) (fun _ _ _ _ _ => (aG (i := 0) (show List.Nodup [("_law_place" : Str), ("_law_turns" : Str)] from by decide +kernel) rfl (Or.inr rfl))) (fun _ _ _ _ _ => bB) (fun _ _ _ _ _ => (gA (N' := ["_law_turn", "_law_place"]) (tn := 1) (idx := [0]) rfl (aB.rel (show aB ["_law_place", "_law_turns"] _ _ ["_law_turn", "_law_place"] 1 [0] from by decide +kernel)) (cX (K := K) rfl (qv 1)) (fun _ _ _ _ _ => (aG (i := 0) (show List.Nodup [("_law_turn" : Str), ("_law_place" : Str)] from by decide +kernel) rfl (Or.inl rfl))) (fun _ _ _ _ _ => bB) (fun _ _ _ _ _ => (b0 (dq (K := K) rfl) (qv 0) (qv 1) (fun _ _ => rfl))))))))
      qss_nil)
    (ah (bU (QW.pt (ky (bb kG (qv 4) aC (aZ _)) (i9 (QW.pt (yK (bb kG (qv 4) aC (aZ _)) (vq (bb kG (qv 8) aC (aZ _))))))))
      (aw (j4 (aH bK (hr.mono (by decide)) rfl ax.mg ax.fn.kp ax.bd aW hP hw hK ht XR.none (aa (qv 0) (aa (qv 2) af))) (j7 (b0 (dq (K := K) rfl) (qv 5) (b0 (dq (K := K) rfl) (qv 6) aC (fun _ _ => rfl)) (fun _ _ => rfl)) (aH bK (hr.mono (by decide)) rfl ax.mg ax.fn.kp ax.bd aW hP hw hK ht XR.none (aa (qv 0) (aa (qv 3) af))))))
      qss_nil)
    (aw (Hc 5 rfl (aP (lZ (vw (K := K) rfl) rfl bl.tuple_ dF (aa (bq (N' := ["_law_row"]) (tn := 1) (idx := []) rfl (show aB ["_law_bag_here", "_law_most", "_law_many", "_law_ways", "_law_kind", "_law_rows", "_law_order_here", "_law_period", "_law_stays", "_law_k", "_law_place", "_law_onward", "_law_goals_here", "_law_turns"] (aj b8) _ ["_law_row"] 1 [] from by decide +kernel) (cX (K := K) rfl (qv 5)) (fun _ _ _ _ _ => (aG (i := 0) (show List.Nodup [("_law_row" : Str)] from by decide +kernel) rfl (Or.inl rfl))) (fun _ _ _ _ _ => bB) (fun _ _ _ _ _ => (lZ (vw (K := K) rfl) rfl bl.tuple_ dF (aa (qv 0) af)))) af))))))))))))))), ?_⟩
  subst e
  have big : (100 : Nat) < sizeLine := by decide
  refine JK (fun ρ M => ∃ (n ways kind stays : Nat) (r : Addr) (as : List Addr) (os : List Int) (x7 x9 mx my dO : Option Dv), (d6 x7 ∧ d6 x9 ∧ d6 mx ∧ d6 my ∧ d6 dO) ∧ ρ = [some (.ptr b), some (.int (most : Nat)), some (.int (n : Nat)), some (.int (ways : Nat)), some (.int (kind : Nat)), some (.ptr r), some (jC os), x7, some (.int (stays : Nat)), x9, mx, my, dO, none] ∧ cK Γ.M0 M r as n ways ∧ eG n os ∧ 1 ≤ n ∧ n ≤ most ∧ (ways = 2 ∨ ways = 3)) (fun N hN => ?_) ?_
  · simp! only []
    refine ⟨b, _, rfl, hb, by omega, by omega, fun m hm => ?_⟩
    obtain ⟨n, hn⟩ : ∃ n : Nat, (1 + (m : Int)) = (n : Nat) := ⟨1 + m, by omega⟩
    have n1 : 1 ≤ n := by omega
    have n9 : n ≤ most := by omega
    simp! only [hn]
    refine ⟨b, _, rfl, hb, by omega, by omega, fun v hv => ?_⟩
    obtain ⟨ways, JP⟩ : ∃ ways : Nat, (2 + (v : Int)) = (ways : Nat) := ⟨2 + v, by omega⟩
    have w2 : ways = 2 ∨ ways = 3 := by omega
    simp! only [JP]
    refine ⟨b, _, rfl, hb, by omega, by omega, fun kind mH => ?_⟩
    simp! only []
    refine ⟨by omega, by omega, by omega, ?_⟩
    refine fP (acc := []) (fun acc τ M => ∃ as : List Addr, acc = as.map Dv.ptr ∧ (∃ x, τ = [x, some (.ptr b), some (.int (n : Nat)), some (.int (ways : Nat))]) ∧ jm Γ.M0 M ∧ ∀ a ∈ as, Γ.M0 a = none ∧ ∃ row : List Int, M a = some (.lst (row.map .int)) ∧ fg n ways row) ⟨[], rfl, ⟨_, rfl⟩, .refl, fun _ h => nomatch h⟩ (fun i d acc τ M hd _ ⟨as, e1, ⟨x, e2⟩, hO, ha⟩ R hR => ?_) (fun ys τ M hl ⟨as, e1, ⟨x, e2⟩, hO, ha⟩ => ?_)
    · subst e1 e2
      simp! only []
      refine ⟨by omega, by omega, by omega, rW (n := n) (fun τ => ∃ y, τ = [y, some (.ptr b), some (.int (n : Nat))]) ⟨_, rfl⟩ (fun d hd τ ⟨y, e⟩ R2 ua => ?_) (fun row hl nV a jx => ?_)⟩
      · subst e
        simp! only []
        exact ⟨b, _, rfl, hO.kp _ _ hb, by omega, by omega, fun d hd => ua _ _ (by omega) (by omega) ⟨_, rfl⟩⟩
      · exact hR _ _ _ (rq hO ha jx ⟨by simpa [rangeD_len] using hl, nV⟩ ⟨_, rfl⟩)
    · rw [List.nil_append] at e1
      subst e1 e2
      intro r vI
      have RM := cK.mk' (n := n) (ways := ways) hO vI (by simpa [rangeD_len] using hl) ha
      refine ⟨b, n, rfl, RM.kp _ _ hb, by omega, fun os mr => ?_⟩
      simp! only []
      refine ⟨b, _, rfl, RM.kp _ _ hb, by omega, by omega, fun pe O4 => ?_⟩
      simp! only []
      refine ⟨b, _, rfl, RM.kp _ _ hb, by omega, by omega, fun stays B9 => ?_⟩
      obtain ⟨per, Mw⟩ : ∃ per : Nat, (1 + (pe : Int)) = (per : Nat) := ⟨1 + pe, by omega⟩
      simp! only [Mw]
      have yr := mr.len
      refine dC (fun i ρ M => ∃ (as : List Addr) (x9 mx my dO : Option Dv), (d6 x9 ∧ d6 mx ∧ d6 my ∧ d6 dO) ∧ ρ = [some (.ptr b), some (.int (most : Nat)), some (.int (n : Nat)), some (.int (ways : Nat)), some (.int (kind : Nat)), some (.ptr r), some (jC os), some (.int (per : Nat)), some (.int (stays : Nat)), x9, mx, my, dO, none] ∧ cK Γ.M0 M r as n ways)
        ⟨as, _, _, _, _, ⟨.none, .none, .none, .none⟩, rfl, RM⟩ (fun i d ρ M N2 hd ⟨as, x9, mx, my, dO, ⟨p9, C1, C2, jI⟩, e1, RM⟩ mq => ?_) (fun ρ M ⟨as, x9, mx, my, dO, ⟨p9, C1, C2, jI⟩, e1, RM⟩ => ?_)
      · subst e1
        have hd : (bP (jb (os.map Dv.int).length) (os.map Dv.int))[i]? = some d := by rw [List.length_map]; exact hd
        obtain ⟨y, rfl, hy⟩ := D4 hd
        obtain ⟨place, fV, rfl⟩ := jc hy
        have hi : i < n := by have := (List.getElem?_eq_some_iff.mp fV).1; omega
        obtain ⟨K6, Od⟩ := mr.mem (List.mem_of_getElem? fV)
        obtain ⟨pk, rfl⟩ := Int.eq_ofNat_of_zero_le K6
        have zJ : pk < n := by omega
        have Mx : ((i : Int) + 1) % (n : Int) = (((i + 1) % n : Nat) : Int) := by push_cast; rfl
        obtain ⟨on, Oe, C3, HK⟩ := mr.at (i := (i + 1) % n) (Nat.mod_lt _ (by omega))
        obtain ⟨vN, rfl⟩ := Int.eq_ofNat_of_zero_le C3
        have step : ∀ {as : List Addr} {M : Mh}, cK Γ.M0 M r as n ways → ∃ a, c6 (as.map Dv.ptr) ((pk : Nat) : Int) = some (.ptr a) ∧ a ∈ as := fun {as M} RM => by
          have hl : pk < as.length := by rw [RM.len]; exact zJ
          exact ⟨as[pk], eE (by rw [List.getElem?_map, List.getElem?_eq_getElem hl]; rfl), List.getElem_mem hl⟩
        simp only [zgTup, zgCons, zgNil, zgName, List.set_cons_zero, List.set_cons_succ, List.length_cons, List.length_nil, Nat.reduceAdd, List.getElem?_cons_zero]
        refine ⟨trivial, ?_⟩
        refine oU (fun ρ M => ∃ (as : List Addr) (dO : Option Dv), d6 dO ∧ ρ = [some (.ptr b), some (.int (most : Nat)), some (.int (n : Nat)), some (.int (ways : Nat)), some (.int (kind : Nat)), some (.ptr r), some (jC os), some (.int (per : Nat)), some (.int (stays : Nat)), some (.int (i : Nat)), some (.int (pk : Nat)), some (.int (vN : Nat)), dO, none] ∧ cK Γ.M0 M r as n ways) (fun N hN => ?_) ?_
        · simp! only [Mx, Oe]
          exact ⟨by omega, hN _ _ ⟨as, _, jI, rfl, RM⟩⟩
        rintro ρ M ⟨as, dO, jI, rfl, RM⟩
        refine oU (fun ρ M => ∃ (as : List Addr) (dO : Option Dv), d6 dO ∧ ρ = [some (.ptr b), some (.int (most : Nat)), some (.int (n : Nat)), some (.int (ways : Nat)), some (.int (kind : Nat)), some (.ptr r), some (jC os), some (.int (per : Nat)), some (.int (stays : Nat)), some (.int (i : Nat)), some (.int (pk : Nat)), some (.int (vN : Nat)), dO, none] ∧ cK Γ.M0 M r as n ways) (fun N hN => ?_) ?_
        · simp! only []
          refine eS (fun h => eS (fun h2 => ?_) (fun _ => hN _ _ ⟨as, _, jI, rfl, RM⟩)) (fun _ => hN _ _ ⟨as, _, jI, rfl, RM⟩)
          obtain ⟨a, ea, ha⟩ := step RM
          obtain ⟨row, em, ro⟩ := RM.row a ha
          simp only [RM.rm, ea]
          refine ⟨b, _, rfl, RM.kp _ _ hb, by omega, by omega, fun t ht => ?_⟩
          simp only [em, List.length_map, ro.1, mV (show t < ways by omega)]
          rw [t7]
          exact hN _ _ ⟨as, _, jI, rfl, RM.HJ ha (ro.set C3 HK)⟩
        rintro ρ M ⟨as, dO, jI, rfl, RM⟩
        refine oU (fun ρ M => ∃ (as : List Addr) (dO : Option Dv), d6 dO ∧ ρ = [some (.ptr b), some (.int (most : Nat)), some (.int (n : Nat)), some (.int (ways : Nat)), some (.int (kind : Nat)), some (.ptr r), some (jC os), some (.int (per : Nat)), some (.int (stays : Nat)), some (.int (i : Nat)), some (.int (pk : Nat)), some (.int (vN : Nat)), dO, none] ∧ cK Γ.M0 M r as n ways) (fun N hN => ?_) ?_
        · simp! only []
          refine eS (fun h => ?_) (fun _ => hN _ _ ⟨as, _, jI, rfl, RM⟩)
          have O5 : ∀ j : Nat, ((j : Int) % (per : Int)) = ((j % per : Nat) : Int) := fun j => by push_cast; rfl
          refine ⟨by omega, by omega, by omega, pW (BC per i) (fun d => .int (pw os d)) (fun τ M' => (∃ x, τ = [x, some (jC os), some (.int (per : Nat)), some (.int (i : Nat))]) ∧ M' = M) ⟨⟨_, rfl⟩, rfl⟩ (fun d hd τ M' ⟨⟨x, e⟩, eM⟩ R0 R h1 h2 => ?_) (fun τ M' ⟨⟨x, e⟩, eM⟩ => ?_)⟩
          · subst e eM
            obtain ⟨j, hj, rfl⟩ := oR hd
            simp only [Int.zero_add] at h1 h2 ⊢
            obtain ⟨gx, jH, g0, g1⟩ := mr.at hj
            have hg : pw os (.int (j : Nat)) = gx := t9 jH
            simp! only [jH]
            refine ⟨by omega, by omega, eS (fun h => ?_) (fun h => ?_)⟩
            · rw [hg] at h1
              exact h1 h _ _ ⟨⟨_, rfl⟩, rfl⟩
            · exact h2 h _ _ ⟨⟨_, rfl⟩, rfl⟩
          · subst e eM
            obtain ⟨gs, Of, zK, O6, Og⟩ := BD (i := i) mr (per := per) (by omega) (by omega)
            rw [Of]
            refine ⟨by omega, by omega, by omega, rW (n := n) (fun τ => ∃ y, τ = [y, some (jC gs), some (.ptr b)]) ⟨_, rfl⟩ (fun d hd τ ⟨y, e⟩ R hR => ?_) (fun row hl nV a jx => ?_)⟩
            · subst e
              simp! only []
              refine ⟨b, _, rfl, RM.kp _ _ hb, by omega, by omega, fun t ht => ?_⟩
              have C4 : t < gs.length := by omega
              simp only [show c6 (gs.map Dv.int) (t : Int) = some (.int gs[t]) from eE (by rw [List.getElem?_map, List.getElem?_eq_getElem C4]; rfl)]
              obtain ⟨q0, q1⟩ := Og _ (List.getElem_mem C4)
              exact hR _ _ q0 q1 ⟨_, rfl⟩
            · have nr : r ≠ a := fun z => by rw [← z, RM.rm] at jx; cases jx
              simp only [ao nr, RM.rm, List.length_map, RM.len, mV zJ]
              exact hN _ _ ⟨_, _, .lI gs, rfl, RM.put jx ⟨by simpa [rangeD_len] using hl, nV⟩ zJ⟩
        rintro ρ M ⟨as, dO, jI, rfl, RM⟩
        simp! only []
        refine eS (fun h => ?_) (fun _ => mq _ _ ⟨as, _, _, _, _, ⟨.int _, .int _, .int _, jI⟩, rfl, RM⟩)
        refine ⟨by omega, ⟨by omega, by omega, by omega, by omega⟩, by omega, rW (n := n) (fun τ => ∃ y, τ = [y, some (.int (stays : Nat)), some (.int (vN : Nat)), some (.int (pk : Nat))]) ⟨_, rfl⟩ (fun d hd τ ⟨y, e⟩ R hR => ?_) (fun row hl nV => ⟨?_, fun a jx => ?_⟩)⟩
        · subst e
          simp! only []
          have Oh : stays = 0 ∨ stays = 1 := by omega
          rcases Oh with rfl | rfl
          · exact ⟨by omega, hR _ _ C3 HK ⟨_, rfl⟩⟩
          · exact ⟨by omega, hR _ _ K6 Od ⟨_, rfl⟩⟩
        · rw [List.length_map, hl, rangeD_len]; omega
        · have nr : r ≠ a := fun z => by rw [← z, RM.rm] at jx; cases jx
          have er : Dv.int (vN : Nat) :: row.map Dv.int = ((vN : Int) :: row).map Dv.int := rfl
          rw [er]
          simp only [ao nr, RM.rm, List.length_map, RM.len, mV zJ]
          refine mq _ _ ⟨_, _, _, _, _, ⟨.int _, .int _, .int _, jI⟩, rfl, RM.put jx ⟨?_, fun x hx => ?_⟩ zJ⟩
          · rw [List.length_cons, hl, rangeD_len]; omega
          · rcases List.mem_cons.mp hx with z | z
            · rw [z]; exact ⟨C3, HK⟩
            · exact nV x z
      · exact hN _ _ ⟨n, ways, kind, stays, r, as, os, _, _, _, _, _, ⟨.int _, p9, C1, C2, jI⟩, e1, RM, mr, n1, n9, w2⟩
  · rintro ρ M ⟨n, ways, kind, stays, r, as, os, x7, x9, mx, my, dO, ⟨p7, p9, C1, C2, jI⟩, rfl, RM, mr, n1, n9, w2⟩
    have yr := mr.len
    refine oU (fun ρ M => ∃ (r : Addr) (as : List Addr) (i7 : Option Dv), d6 i7 ∧ ρ = [some (.ptr b), some (.int (most : Nat)), some (.int (n : Nat)), some (.int (ways : Nat)), some (.int (kind : Nat)), some (.ptr r), some (jC os), x7, some (.int (stays : Nat)), x9, mx, my, dO, i7] ∧ cK Γ.M0 M r as n ways) (fun N hN => ?_) ?_
    · simp! only []
      refine eS (fun h => ?_) (fun _ => hN _ _ ⟨r, as, _, .none, rfl, RM⟩)
      refine ⟨by omega, by omega, by omega, fP (acc := []) (fun acc τ M' => ∃ ts : List (List Int), acc = ts.map jC ∧ (∃ x, τ = [x, some (.ptr b), some (.int (n : Nat))]) ∧ (∀ o ∈ ts, eG n o) ∧ M' = M) ⟨[], rfl, ⟨_, rfl⟩, (fun _ h => nomatch h), rfl⟩ (fun i d acc τ M' hd _ ⟨ts, e1, ⟨x, e2⟩, hT, eM⟩ R hR => ?_) (fun ys τ M' hl ⟨ts, e1, ⟨x, e2⟩, hT, eM⟩ => ?_)⟩
      · subst e1 e2 eM
        simp! only []
        refine ⟨b, n, rfl, RM.kp _ _ hb, by omega, fun o ho => hR _ _ _ ⟨ts ++ [o], by rw [List.map_append]; rfl, ⟨_, rfl⟩, fun c hc => ?_, rfl⟩⟩
        rcases List.mem_append.mp hc with z | z
        · exact hT c z
        · rw [List.mem_singleton] at z; rw [z]; exact ho
      · rw [List.nil_append] at e1
        subst e1 e2 eM
        have C4 : ts.length = ways := by simpa [rangeD_len] using hl
        refine ⟨by omega, by omega, by omega, fP (acc := []) (fun acc τ M => ∃ as : List Addr, acc = as.map Dv.ptr ∧ (∃ x, τ = [x, some (.lst (ts.map jC))]) ∧ jm Γ.M0 M ∧ ∀ a ∈ as, Γ.M0 a = none ∧ ∃ row : List Int, M a = some (.lst (row.map .int)) ∧ fg n ways row) ⟨[], rfl, ⟨_, rfl⟩, RM.own, fun _ h => nomatch h⟩ (fun i d acc τ M hd _ ⟨as, e1, ⟨x, e2⟩, hO, ha⟩ R hR => ?_) (fun ys τ M hl ⟨as, e1, ⟨x, e2⟩, hO, ha⟩ => ?_)⟩
        · subst e1 e2
          obtain ⟨rfl, hi⟩ := cV hd
          simp! only []
          refine ⟨by omega, rW (n := n) (fun τ => ∃ y, τ = [y, some (.int (i : Nat))]) ⟨_, rfl⟩ (fun d hd τ ⟨y, e⟩ R2 ua => ?_) (fun row hl nV a jx => ?_)⟩
          · subst e
            obtain ⟨o, ho, rfl⟩ := List.mem_map.mp hd
            obtain ⟨gx, jH, g0, g1⟩ := (hT o ho).at hi
            simp! only [jH]
            exact ua _ _ g0 g1 ⟨_, rfl⟩
          · exact hR _ _ _ (rq hO ha jx ⟨by rw [hl, List.length_map]; exact C4, nV⟩ ⟨_, rfl⟩)
        · rw [List.nil_append] at e1
          subst e1 e2
          intro r2 Oi
          refine hN _ _ ⟨r2, as, _, fun M d e => ?_, rfl, cK.mk' (n := n) (ways := ways) hO Oi (by simpa [rangeD_len] using hl) ha⟩
          cases e
          exact .lst fun d hd => by obtain ⟨o, _, rfl⟩ := List.mem_map.mp hd; exact .lst (gT o)
    rintro ρ M ⟨r, as, i7, zL, rfl, RM⟩
    refine oU (fun ρ M => ∃ (r : Addr) (as : List Addr) (i7 : Option Dv), d6 i7 ∧ ρ = [some (.ptr b), some (.int (most : Nat)), some (.int (n : Nat)), some (.int (ways : Nat)), some (.int (kind : Nat)), some (.ptr r), some (jC os), x7, some (.int (stays : Nat)), x9, mx, my, dO, i7] ∧ cK Γ.M0 M r as n ways) (fun N hN => ?_) ?_
    · simp! only []
      obtain ⟨gx, jH, g0, g1⟩ := mr.at (i := 0) (by omega)
      obtain ⟨gk, rfl⟩ := Int.eq_ofNat_of_zero_le g0
      have jH : c6 (os.map Dv.int) 0 = some (.int (gk : Nat)) := jH
      have qK : gk < as.length := by rw [RM.len]; omega
      have ea : c6 (as.map Dv.ptr) (gk : Int) = some (.ptr as[gk]) := eE (by rw [List.getElem?_map, List.getElem?_eq_getElem qK]; rfl)
      have ha := List.getElem_mem qK
      obtain ⟨row, em, ro⟩ := RM.row as[gk] ha
      simp only [jH]
      have put : pq [.ptr b, .int (n : Nat)] M (fun d M1 => match (match M1 r with | some (.lst ds) => some ds | _ => none) with
          | some ds => (match c6 ds (gk : Int) with
            | some Oj => pq [.ptr b, .int (ways : Nat)] M1 (fun i M2 => match Oj, i with
              | .ptr a, .int k => (match M2 a with
                | some (.lst xs) => (match ig xs.length k with
                  | some j => N [some (.ptr b), some (.int (most : Nat)), some (.int (n : Nat)), some (.int (ways : Nat)), some (.int (kind : Nat)), some (.ptr r), some (jC os), x7, some (.int (stays : Nat)), x9, mx, my, dO, i7] (av M2 a (.lst (xs.set j d)))
                  | none => False)
                | _ => False)
              | _, _ => False) fun _ _ => False
            | none => False)
          | none => False) fun _ _ => False := by
        refine ⟨b, _, rfl, RM.kp _ _ hb, by omega, by omega, fun u hu => ?_⟩
        simp only [RM.rm, ea]
        refine ⟨b, _, rfl, RM.kp _ _ hb, by omega, by omega, fun t ht => ?_⟩
        simp only [em, List.length_map, ro.1, mV (show t < ways by omega)]
        rw [t7]
        exact hN _ _ ⟨r, as, _, zL, rfl, RM.HJ ha (ro.set (by omega) (by omega))⟩
      exact eS (fun _ => put) (fun _ => eS (fun _ => eS (fun _ => put) (fun _ => hN _ _ ⟨r, as, _, zL, rfl, RM⟩)) (fun _ => hN _ _ ⟨r, as, _, zL, rfl, RM⟩))
    rintro ρ M ⟨r, as, i7, zL, rfl, RM⟩
    have nb : ∀ {c o}, Γ.M0 c = some o → c ≠ r := fun e z => by rw [z, RM.r0] at e; cases e
    have dk : Keeps Γ.M0 (bV M r) := fun c o e => by rw [bQ (nb e)]; exact RM.kp c o e
    refine .inr ⟨r, _, rfl, RM.rm, RM.r0, ⟨fun j d e => ?_, fun c o e => ?_⟩, ?_⟩
    · match j, e with
      | 0, e => cases e; exact .ptr (by rw [dk _ _ hb]; rfl)
      | 1, e => cases e; exact .int _
      | 2, e => cases e; exact .int _
      | 3, e => cases e; exact .int _
      | 4, e => cases e; exact .int _
      | 5, e => cases e; exact .lst fun d hd => by
                  obtain ⟨a, ha, rfl⟩ := List.mem_map.mp hd
                  obtain ⟨row, em, _⟩ := RM.row a ha
                  exact .ptr (by rw [bQ (RM.fr a ha).2, em]; rfl)
      | 6, e => cases e; exact .lst (gT _)
      | 7, e => exact p7 _ _ (Option.some.inj e)
      | 8, e => cases e; exact .int _
      | 9, e => exact p9 _ _ (Option.some.inj e)
      | 10, e => exact C1 _ _ (Option.some.inj e)
      | 11, e => exact C2 _ _ (Option.some.inj e)
      | 12, e => exact jI _ _ (Option.some.inj e)
      | 13, e => exact zL _ _ (Option.some.inj e)
      | j + 14, e => exact nomatch e
    · have nc : c ≠ r := fun z => by rw [z, cB] at e; cases e
      rw [bQ nc] at e
      rcases RM.pin c o e with q | q | ⟨row, rfl⟩ | ⟨bs, rfl, q2⟩
      · exact .inl q
      · exact absurd q nc
      · exact .inr (gT row)
      · refine .inr fun d hd => ?_
        obtain ⟨a, ha, rfl⟩ := List.mem_map.mp hd
        obtain ⟨h1, u, h2⟩ := q2 a ha
        exact .ptr (by rw [bQ h1, h2]; rfl)
    · simp! only []
      refine ⟨by rw [RM.len]; omega, fP (acc := []) (fun acc τ M' => ∃ rs : List (List Int), acc = rs.map eI ∧ (∃ x, τ = [x]) ∧ (∀ row ∈ rs, fg n ways row) ∧ M' = bV M r) ⟨[], rfl, ⟨_, rfl⟩, (fun _ h => nomatch h), rfl⟩ (fun i d acc τ M' hd _ ⟨rs, e1, ⟨x, e2⟩, C5, eM⟩ R hR => ?_) (fun ys τ M' hl ⟨rs, e1, ⟨x, e2⟩, C5, eM⟩ => ?_)⟩
      · subst e1 e2 eM
        obtain ⟨a, ha, rfl⟩ := jc hd
        have ha := List.mem_of_getElem? ha
        obtain ⟨row, em, ro⟩ := RM.row a ha
        simp! only [bQ (RM.fr a ha).2, em]
        refine hR _ _ _ ⟨rs ++ [row], by rw [List.map_append]; rfl, ⟨_, rfl⟩, fun c hc => ?_, rfl⟩
        rcases List.mem_append.mp hc with z | z
        · exact C5 c z
        · rw [List.mem_singleton] at z; rw [z]; exact ro
      · rw [List.nil_append] at e1
        subst e1 e2 eM
        have KY : rs.length = n := by rw [List.length_map, List.length_map, RM.len] at hl; exact hl
        exact md dk (y0 rs) (q rs ways ⟨by omega, by omega, w2, fun row hr => ⟨(C5 row hr).1, fun g hg => by rw [KY]; exact (C5 row hr).2 g hg⟩⟩ (by omega))
end
section
variable {P : Program} {w : World} {K : PySem.W.Frag} {mg : Str → Option Value} {base : Heap} {tb : da}
theorem uV : aU ["thing"] ["thing"] (aj fe) := ⟨rfl, rfl, rfl, by decide +kernel, rfl, by decide +kernel, by decide +kernel⟩
theorem mY : aU ["thing", "many"] ["thing", "many"] (aj dh) := ⟨rfl, rfl, rfl, by decide +kernel, rfl, by decide +kernel, by decide +kernel⟩
theorem zM : aU ["thing", "many", "width"] ["thing", "many", "width"] (aj jk) := ⟨rfl, rfl, rfl, by decide +kernel, rfl, by decide +kernel, by decide +kernel⟩
theorem mB : aU ["thing", "many", "width"] ["thing"] (aj jl) := ⟨rfl, rfl, rfl, by decide +kernel, rfl, by decide +kernel, by decide +kernel⟩
noncomputable def ub (d : Dv) : Bool := (isD "int" (fun _ => none) d).isSome
noncomputable def zN : Dv → Bool | .int _ => true | _ => false
noncomputable def fF (m : Int) : Dv → Bool | .int i => decide (0 ≤ i) && decide (i < m) | _ => false
noncomputable def HL : cU := fun ds M Q _ => ∃ d, ds = [d] ∧ ub d = true ∧ Q (.bl (zN d)) M
theorem uW {f : Addr} {fd : FuncData} (D : Df K mg "is_whole" fe ["thing"] f fd) (bl : Bl mg) : FnOk P w K mg base bc 1 f fd ["thing"] (aT P w K tb HL) := by
  refine dS D uV (fun ds M Q E hS => by obtain ⟨d, e, _⟩ := hS; rw [e]; rfl) fun A outer s E Γ ds Q' E' hP hw hK ht hr hS => ?_
  obtain ⟨d, e, hk, q⟩ := hS
  refine ⟨_, (aw (aP (fD (az (aV (K := K) rfl) rfl bl.isinstance_ aD (aa (qv 0) (aa (bg (v := .ty "int") rfl bl.int_ sJ rfl) af))) (iq (sX (az (aV (K := K) rfl) rfl bl.isinstance_ aD (aa (qv 0) (aa (bg (v := .ty "bool") rfl bl.bool_ pO rfl) af)))))))), ?_⟩
  subst e
  cases d <;> first | exact ⟨by decide, ⟨by decide, .inl q⟩⟩ | exact ⟨by decide, .inl q⟩ | exact nomatch hk
noncomputable def HM : cU := fun ds M Q _ => ∃ d m, ds = [d, .int m] ∧ ub d = true ∧ Q (.bl (fF m d)) M
theorem mZ {f f1 : Addr} {fd cW : FuncData} (D : Df K mg "is_whole_below" dh ["thing", "many"] f fd) (cC : Df K mg "is_whole" fe ["thing"] f1 cW) (bl : Bl mg) : FnOk P w K mg base bc 2 f fd ["thing", "many"] (aT P w K tb HM) := by
  have wW := uW (P := P) (w := w) (base := base) (tb := tb) cC bl
  refine dS D mY (fun ds M Q E hS => by obtain ⟨d, m, e, _⟩ := hS; rw [e]; rfl) fun A outer s E Γ ds Q' E' hP hw hK ht hr hS => ?_
  obtain ⟨d, m, e, hk, q⟩ := hS
  refine ⟨_, (aw (aP (fD (aH wW (hr.mono (by decide)) rfl cC.mg cC.fn.kp cC.bd aW hP hw hK ht XR.none (aa (qv 0) af)) (iq (Ba Bc kD aC (qv 0) (qv 1)))))), ?_⟩
  subst e
  refine ⟨d, rfl, hk, ?_⟩
  cases d with
  | int i =>
    simp! only [zN]
    refine eS (fun h => ?_) (fun h => ?_)
    · rw [show fF m (.int i) = decide (i < m) by simp only [fF, h, Bool.true_and]] at q
      exact .inl q
    · rw [show fF m (.int i) = false by simp only [fF, h, Bool.false_and]] at q
      exact .inl q
  | _ => exact .inl q
noncomputable def gY (m : Int) (w : Nat) : Dv → Bool | .tup ds => decide (ds.length = w) && ds.all (fF m) | _ => false
noncomputable def BE : Dv → Bool | .tup ds => ds.all ub | d => ub d
noncomputable def HN : cU := fun ds M Q _ => ∃ d m w, ds = [d, .int m, .int (w : Nat)] ∧ BE d = true ∧ Q (.bl (gY m w d)) M
theorem zO {f f1 f2 : Addr} {fd cW fd2 : FuncData} {kR bf : Addr} (D : Df K mg "is_row" jk ["thing", "many", "width"] f fd) (gZ : Cm base fd kR bf) (hp : bf ∈ tb) (jw : ∃ bm ob, BMod base mainGlobals mg bm ob)
    (bI : Df K mg "is_whole_below" dh ["thing", "many"] f1 cW) (cC : Df K mg "is_whole" fe ["thing"] f2 fd2) (bl : Bl mg) : FnOk P w K mg base bc 4 f fd ["thing", "many", "width"] (aT P w K tb HN) := by
  have nW := mZ (P := P) (w := w) (base := base) (tb := tb) bI cC bl
  refine dS D zM (fun ds M Q E hS => by obtain ⟨d, m, n, e, _⟩ := hS; rw [e]; rfl) fun A outer s E Γ ds Q' E' hP hw hK ht hr hS => ?_
  obtain ⟨d, m, n, e, hk, q⟩ := hS
  have wX : bf ∈ Γ.tb := ht ▸ hp
  refine ⟨_, (ah (bU (QW.pt (ky (j1 (dg (az (aV (K := K) rfl) rfl bl.isinstance_ aD (aa (qv 0) (aa (bg (v := .ty "tuple") rfl bl.tuple_ dF rfl) af))))) (i9 (bb tq (az (eB (K := K) rfl hK) rfl bl.len_ PySem.boot_len (aa (qv 0) af)) (qv 2) (aZ _)))))
      (aw (aP fc))
      qss_nil)
    (aw (aP (yZ (k := 2) (N' := ["goal", "many"]) (tn := 1) (idx := [1]) wX (hr.mono (by decide)) rfl (show aB ["thing", "many", "width"] (aj jk) _ ["goal", "many"] 1 [1] from by decide +kernel) rfl rfl gZ.code gZ.hd jw rfl bl.all_ (sZ (K := K) rfl (qv 0)) (fun _ _ _ _ _ _ _ hr => (aG (i := 0) (show List.Nodup [("goal" : Str), ("many" : Str)] from by decide +kernel) rfl (Or.inl rfl))) (fun _ _ _ _ _ _ _ hr => bB) (fun _ _ _ _ _ _ _ hr => (aH nW (hr.mono (by decide)) rfl bI.mg bI.fn.kp bI.bd aW hP hw hK ht XR.none (aa (qv 0) (aa (qv 1) af)))))))), ?_⟩
  subst e
  cases d with
  | tup es =>
    refine ⟨by decide, eS (c := !decide ((es.length : Int) = (n : Nat))) (fun h => ?_) (fun h => ?_)⟩
    · rw [show gY m n (.tup es) = false by simp at h; simp [gY]; intro z; omega] at q
      exact .inl q
    · rw [show gY m n (.tup es) = es.all (fF m) by simp at h; simp [gY, show es.length = n by omega]] at q
      refine pV (fF m) (fun τ => ∃ x, τ = [x, some (.int m)]) ⟨none, rfl⟩ (fun d hd τ ⟨x, e⟩ R hR => ?_) (.inl q)
      subst e
      exact ⟨d, m, rfl, List.all_eq_true.mp hk d hd, hR _ ⟨_, rfl⟩⟩
  | _ => first | exact ⟨by decide, .inl q⟩ | exact nomatch hk
noncomputable def jn : Dv → Bool | .tup rs => decide (1 ≤ rs.length ∧ rs.length ≤ 9) && (rs.all (gY rs.length 2) || rs.all (gY rs.length 3)) | _ => false
noncomputable def wY : Dv → Bool | .tup rs => rs.all BE | d => ub d
noncomputable def HP : cU := fun ds M Q _ => ∃ d, ds = [d] ∧ wY d = true ∧ Q (.bl (jn d)) M
theorem zP {f f1 f2 f3 : Addr} {fd cW fd2 jJ : FuncData} {kR bf ud bF : Addr} (D : Df K mg "is_net" jl ["thing"] f fd) (kT : Cm base fd ud bF) (Ol : bF ∈ tb) (fQ : Df K mg "is_row" jk ["thing", "many", "width"] f3 jJ) (gZ : Cm base jJ kR bf) (hp : bf ∈ tb) (jw : ∃ bm ob, BMod base mainGlobals mg bm ob)
    (bI : Df K mg "is_whole_below" dh ["thing", "many"] f1 cW) (cC : Df K mg "is_whole" fe ["thing"] f2 fd2) (bl : Bl mg) {tk : Tok} (g6 : mg "MOST_PLACES" = some (.int 9 tk)) : FnOk P w K mg base bc 6 f fd ["thing"] (aT P w K tb HP) := by
  have BF := zO (P := P) (w := w) (tb := tb) fQ gZ hp jw bI cC bl
  refine dS D mB (fun ds M Q E hS => by obtain ⟨d, e, _⟩ := hS; rw [e]; rfl) fun A outer s E Γ ds Q' E' hP hw hK ht hr hS => ?_
  obtain ⟨d, e, hk, q⟩ := hS
  have kU : bF ∈ Γ.tb := ht ▸ Ol
  refine ⟨_, (ah (bU (QW.pt (ky (j1 (dg (az (aV (K := K) rfl) rfl bl.isinstance_ aD (aa (qv 0) (aa (bg (v := .ty "tuple") rfl bl.tuple_ dF rfl) af))))) (i9 (j1 (sW Bc Bc aC (az (eB (K := K) rfl hK) rfl bl.len_ PySem.boot_len (aa (qv 0) af)) (A9 (i := 9) rfl g6 ⟨_, rfl⟩))))))
      (aw (aP fc))
      qss_nil)
    (ah (aQ (i := 1) mB.nd rfl (Or.inr rfl) (az (eB (K := K) rfl hK) rfl bl.len_ PySem.boot_len (aa (qv 0) af)))
    (ah (gz PassesOwn.never rfl (sZ (K := K) rfl (ir (aa aC (aa aC af)))) (fun pj eP ew eK et => by have hP := hP.trans eP.symm; have hw := hw.trans ew.symm; have hK := hK.trans eK.symm; have ht := ht.trans et.symm; have kU := et.symm ▸ kU; exact ⟨(aG (i := 2) mB.nd rfl (Or.inr rfl)), (aw (bU (dg (yZ (k := 4) (N' := ["row", "many", "width"]) (tn := 1) (idx := [1, 2]) kU (hr.mono (by decide)) rfl (show aB ["thing", "many", "width"] (aj jl) _ ["row", "many", "width"] 1 [1, 2] from by decide +kernel) rfl rfl kT.code kT.hd jw rfl bl.all_ (sZ (K := K) rfl (qv 0)) (fun _ _ _ _ _ _ _ hr => (aG (i := 0) (show List.Nodup [("row" : Str), ("many" : Str), ("width" : Str)] from by decide +kernel) rfl (Or.inl rfl))) (fun _ _ _ _ _ _ _ hr => bB) (fun _ _ _ _ _ _ _ hr => (aH BF (hr.mono (by decide)) rfl fQ.mg fQ.fn.kp fQ.bd aW hP hw hK ht XR.none (aa (qv 0) (aa (qv 1) (aa (qv 2) af)))))))
      (aw (aP fc))
      qss_nil))⟩))
    (aw (aP fc))))), ?_⟩
  subst e
  cases d with
  | tup rs =>
    refine ⟨by decide, ?_⟩
    have row : ∀ (n : Nat) (D : Bool → Mh → Prop), (D (rs.all (gY rs.length n)) Γ.M0) → jz (zgName 0) zNoIf (zCall HN (fun _ _ => False) (zCons (zVar 0) (zCons (zVar 1) (zCons (zVar 2) zNil)))) rs [none, some (.int rs.length), some (.int (n : Nat))] Γ.M0 D := fun n D hD => by
      refine pV (gY rs.length n) (fun τ => ∃ x, τ = [x, some (.int rs.length), some (.int (n : Nat))]) ⟨none, rfl⟩ (fun d hd τ ⟨x, e⟩ R hR => ?_) hD
      subst e
      exact ⟨d, rs.length, n, rfl, List.all_eq_true.mp hk d hd, hR _ ⟨_, rfl⟩⟩
    simp! only []
    refine eS (fun h1 => eS (fun h2 => ?_) (fun h2 => ⟨by decide, ?_⟩)) (fun h1 => ?_)
    · rw [show jn (.tup rs) = false by simp at h1 h2; simp [jn]; intro z; omega] at q
      exact .inl q
    · have e : jn (.tup rs) = (rs.all (gY rs.length 2) || rs.all (gY rs.length 3)) := by
        simp at h1 h2
        simp only [jn]
        rw [decide_eq_true (by omega), Bool.true_and]
      rw [e] at q
      refine row 2 _ (eS (fun z => ?_) (fun z => row 3 _ (eS (fun z2 => ?_) (fun z2 => ?_))))
      · rw [z] at q; exact .inl q
      · rw [z, z2] at q; exact .inl q
      · rw [z, z2] at q; exact .inl q
    · rw [show jn (.tup rs) = false by simp at h1; simp [jn]; intro z; omega] at q
      exact .inl q
  | _ => first | exact ⟨by decide, .inl q⟩ | exact nomatch hk
theorem uX : aU ["thing"] ["thing"] (aj iM) := ⟨rfl, rfl, rfl, by decide +kernel, rfl, by decide +kernel, by decide +kernel⟩
theorem zQ {m : Int} {g : Int} (h : 0 ≤ g ∧ g < m) : fF m (.int g) = true := by simp [fF, h.1, h.2]
theorem Eo {ae : List (List Int)} {n : Nat} (o : dQ ae n) : jn (eN ae) = true := by
  have hr : ∀ d ∈ ae.map eI, gY (ae.map eI).length n d = true := fun d hd => by
    obtain ⟨r, hr, rfl⟩ := List.mem_map.mp hd
    obtain ⟨h1, h2⟩ := o.row r hr
    simp only [gY, List.length_map]
    rw [decide_eq_true h1, Bool.true_and, List.all_eq_true]
    intro d hd
    obtain ⟨g, hg, rfl⟩ := List.mem_map.mp hd
    exact zQ (h2 g hg)
  have ho := o.one
  have hn := o.nine
  simp only [jn, eN]
  rw [decide_eq_true (by rw [List.length_map]; omega), Bool.true_and]
  have ha := List.all_eq_true.mpr hr
  rcases o.wid with rfl | rfl
  · rw [ha]; rfl
  · rw [ha, Bool.or_true]
theorem Ep (ae : List (List Int)) : wY (eN ae) = true := by
  simp only [wY, eN]
  rw [List.all_eq_true]
  intro d hd
  obtain ⟨r, _, rfl⟩ := List.mem_map.mp hd
  simp only [BE, eI]
  rw [List.all_eq_true]
  intro d hd
  obtain ⟨g, hg, rfl⟩ := List.mem_map.mp hd
  rfl
noncomputable def C6 (C : Addr) : cU := fun ds M Q E => ∃ d, ds = [d] ∧ wY d = true ∧ (jn d = true → Q .au M) ∧ (jn d = false → E C M)
theorem uY {f f1 : Addr} {fd cW : FuncData} {C0 C_NoNet : Addr} {cs : List Addr} (D : Df K mg "need_net" iM ["thing"] f fd) (fR : Df K mg "is_net" jl ["thing"] f1 cW) (nX : FnOk P w K mg base bc 6 f1 cW ["thing"] (aT P w K tb HP))
    (X_ : GD K C0 cs) (qa : C_NoNet ∈ cs) (qb : mg "NoNet" = some (.ref C_NoNet)) : FnOk P w K mg base (fy P w) 7 f fd ["thing"] (aT P w K tb (C6 C_NoNet)) := by
  refine wz D uX (fun ds M Q E hS => by obtain ⟨d, e, _⟩ := hS; rw [e]; rfl) fun A outer s E Γ ds Q' E' hP hw hK ht hE hr hS => ?_
  obtain ⟨d, e, hk, q1, q2⟩ := hS
  refine ⟨_, (aw (bU (j1 (dg (aH nX (hr.mono (by decide)) rfl fR.mg fR.fn.kp fR.bd aW hP hw hK ht XR.none (aa (qv 0) af))))
      (aw (Be (X_.ex _ qa) PySem.F.excBase_ValueError rfl GA hE rfl qb (aa GW af)))
      qss_nil)), ?_⟩
  subst e
  simp! only []
  refine ⟨d, rfl, hk, eS (fun h => ?_) (fun h => ?_)⟩
  · exact ⟨by decide, q2 (by simpa using h)⟩
  · exact .inl (q1 (by simpa using h))
end
section
variable {P : Program} {w : World} {K : PySem.W.Frag} {mg : Str → Option Value} {base : Heap} {tb : da}
theorem mC : aU ["net", "many"] ["net"] (aj dI) := ⟨rfl, rfl, rfl, by decide +kernel, rfl, by decide +kernel, by decide +kernel⟩
theorem uZ : aU ["one", "other"] ["one", "other"] (aj iN) := ⟨rfl, rfl, rfl, by decide +kernel, rfl, by decide +kernel, by decide +kernel⟩
noncomputable def fS (m i : Nat) : List (List Int) := (List.range (m - (i + 1))).map fun j : Nat => [(i : Int), (i : Int) + 1 + (j : Nat)]
noncomputable def aF (m : Nat) : List (List Int) := (List.range m).flatMap (fS m)
theorem bZ {m : Nat} {p : List Int} : p ∈ aF m ↔ ∃ a b : Nat, a < b ∧ b < m ∧ p = [(a : Int), (b : Int)] := by
  unfold aF fS
  simp only [List.mem_flatMap, List.mem_range, List.mem_map]
  constructor
  · rintro ⟨i, hi, j, hj, rfl⟩
    exact ⟨i, i + 1 + j, by omega, by omega, by simp⟩
  · rintro ⟨a, b, h1, h2, rfl⟩
    refine ⟨a, by omega, b - (a + 1), by omega, ?_⟩
    have : (a : Int) + 1 + ((b - (a + 1) : Nat) : Int) = b := by omega
    rw [this]
theorem pairs_len {m : Nat} (h : m ≤ 9) : (aF m).length ≤ 36 := by
  have : m = 0 ∨ m = 1 ∨ m = 2 ∨ m = 3 ∨ m = 4 ∨ m = 5 ∨ m = 6 ∨ m = 7 ∨ m = 8 ∨ m = 9 := by omega
  rcases this with rfl | rfl | rfl | rfl | rfl | rfl | rfl | rfl | rfl | rfl <;> decide
theorem u0 {m : Nat} (h : m ≤ 9) : (aF m).Nodup := by
  have : m = 0 ∨ m = 1 ∨ m = 2 ∨ m = 3 ∨ m = 4 ∨ m = 5 ∨ m = 6 ∨ m = 7 ∨ m = 8 ∨ m = 9 := by omega
  rcases this with rfl | rfl | rfl | rfl | rfl | rfl | rfl | rfl | rfl | rfl <;> decide
noncomputable def px : cU := fun ds M Q _ => ∃ ae n, ds = [eN ae] ∧ dQ ae n ∧ Q (.lst ((aF ae.length).map eI)) M
theorem ue {f : Addr} {fd : FuncData} (D : Df K mg "all_pairs" dI ["net"] f fd) (bl : Bl mg) : FnOk P w K mg base bc 1 f fd ["net"] (aT P w K tb px) := by
  refine dS D mC (fun ds M Q E hS => by obtain ⟨ae, n, e, _⟩ := hS; rw [e]; rfl) fun A outer s E Γ ds Q' E' hP hw hK ht hr hS => ?_
  obtain ⟨ae, n, e, O, q⟩ := hS
  refine ⟨_, (ah (aQ (i := 1) mC.nd rfl (Or.inr rfl) (az (eB (K := K) rfl hK) rfl bl.len_ PySem.boot_len (aa (qv 0) af)))
    (aw (aP (tY (N' := ["one", "other", "many"]) (tn := 2) (idx := [1]) rfl (show aB ["net", "many"] (aj dI) _ ["one", "other", "many"] 2 [1] from by decide +kernel) (bY rfl bl.range_ (aa (qv 1) af)) (fun _ _ _ _ _ => (aG (i := 0) (show List.Nodup [("one" : Str), ("other" : Str), ("many" : Str)] from by decide +kernel) rfl (Or.inl rfl))) (fun _ _ _ _ _ => bB) (fun _ _ _ _ _ => (wN rfl bl.range_ (aa (bp fI (qv 0) aC) (aa (qv 2) af)))) (fun _ _ _ _ _ => (aG (i := 1) (show List.Nodup [("one" : Str), ("other" : Str), ("many" : Str)] from by decide +kernel) rfl (Or.inl rfl))) (fun _ _ _ _ _ => bB) (fun _ _ _ _ _ => (ir (aa (qv 0) (aa (qv 1) af)))))))), ?_⟩
  subst e
  have h9 := O.nine
  have big : (1000 : Nat) < sizeLine := by decide
  simp! only []
  refine ⟨by omega, by omega, ?_⟩
  refine tX (fun i acc τ M => (∃ x y, τ = [x, y, some (.int (ae.length : Nat))]) ∧ M = Γ.M0 ∧ acc = ((List.range i).flatMap (fS ae.length)).map eI ∧ i ≤ ae.length) (i := 0) ⟨⟨_, _, rfl⟩, rfl, rfl, Nat.zero_le _⟩ (fun i d acc τ M hd hI R hR => ?_) fun acc τ M hI => ?_
  · obtain ⟨⟨x, y, rfl⟩, rfl, rfl, hi⟩ := hI
    obtain ⟨rfl, hi⟩ := cV hd
    simp! only [zlNest]
    have c9 : i < ae.length := by omega
    simp only [Nat.zero_add] at *
    refine ⟨⟨by omega, by omega, by omega, by omega⟩, ?_⟩
    refine tX (fun j acc τ M => (∃ y, τ = [some (.int (i : Nat)), y, some (.int (ae.length : Nat))]) ∧ M = Γ.M0 ∧ acc = ((List.range i).flatMap (fS ae.length) ++ (fS ae.length i).take j).map eI ∧ j ≤ ae.length) (i := 0) ⟨⟨_, rfl⟩, rfl, by simp, Nat.zero_le _⟩ (fun j d acc τ M hd hI R2 ua => ?_) fun acc τ M hI => ?_
    · obtain ⟨⟨y, rfl⟩, rfl, rfl, Om⟩ := hI
      obtain ⟨rfl, hj⟩ := cV hd
      have zR : j < ae.length - (i + 1) := by omega
      simp! only [Nat.zero_add]
      have l1 : ((List.range i).flatMap (fS ae.length) ++ (fS ae.length i).take j).length ≤ 36 := by
        have : (List.range i).flatMap (fS ae.length) ++ (fS ae.length i).take j <+: aF ae.length := by
          unfold aF
          have ht : List.range ae.length = List.range (i + 1) ++ (List.range (ae.length - (i + 1))).map (fun x => i + 1 + x) := by
            rw [← List.range_add]; congr 1; omega
          rw [ht, List.flatMap_append, List.range_succ, List.flatMap_append, List.append_assoc]
          simp only [List.flatMap_cons, List.flatMap_nil, List.append_nil]
          rw [List.prefix_append_right_inj]
          exact (List.take_prefix j _).trans (List.prefix_append _ _)
        exact Nat.le_trans this.length_le (pairs_len h9)
      refine ⟨by omega, by omega, ua _ _ _ ⟨⟨_, rfl⟩, rfl, ?_, by omega⟩⟩
      have e : (fS ae.length i).take (j + 1) = (fS ae.length i).take j ++ [[(i : Int), (i : Int) + 1 + (j : Nat)]] := by
        have : (fS ae.length i)[j]? = some [(i : Int), (i : Int) + 1 + (j : Nat)] := by
          unfold fS
          rw [List.getElem?_map, List.getElem?_range zR]
          rfl
        rw [List.take_succ, this]
        rfl
      rw [Nat.zero_add, e, ← List.append_assoc, List.map_append (l₂ := [_])]
      rfl
    · obtain ⟨⟨y, rfl⟩, rfl, rfl, Om⟩ := hI
      refine hR _ _ _ ⟨⟨_, _, rfl⟩, rfl, ?_, by omega⟩
      have e : (fS ae.length i).length = ae.length - (i + 1) := by simp [fS]
      rw [rangeD_len, List.take_of_length_le (by rw [e]; omega), List.range_succ, List.flatMap_append]
      simp only [List.flatMap_cons, List.flatMap_nil, List.append_nil]
  · obtain ⟨⟨x, y, rfl⟩, rfl, rfl, hi⟩ := hI
    rw [Nat.zero_add, rangeD_len]
    exact .inl q
noncomputable def jK (a b : Int) : List Int := if a < b then [a, b] else [b, a]
noncomputable def HQ : cU := fun ds M Q _ => ∃ a b, ds = [.int a, .int b] ∧ Q (eI (jK a b)) M
theorem u3 {f : Addr} {fd : FuncData} (D : Df K mg "in_order" iN ["one", "other"] f fd) : FnOk P w K mg base bc 1 f fd ["one", "other"] (aT P w K tb HQ) := by
  refine dS D uZ (fun ds M Q E hS => by obtain ⟨a, b, e, _⟩ := hS; rw [e]; rfl) fun A outer s E Γ ds Q' E' hP hw hK ht hr hS => ?_
  obtain ⟨a, b, e, q⟩ := hS
  refine ⟨_, (aw (aP (Bb (bb kD (qv 0) (qv 1) (aZ _)) (ir (aa (qv 0) (aa (qv 1) af))) (ir (aa (qv 1) (aa (qv 0) af)))))), ?_⟩
  subst e
  simp! only []
  unfold jK at q
  refine eS (fun h => ?_) (fun h => ?_)
  · rw [if_pos (of_decide_eq_true h)] at q
    exact ⟨by decide, .inl q⟩
  · rw [if_neg (of_decide_eq_false h)] at q
    exact ⟨by decide, .inl q⟩
end
section
variable {P : Program} {w : World} {K : PySem.W.Frag} {mg : Str → Option Value} {base : Heap} {tb : da}
theorem cL : aU ["net", "coming", "one", "other", "goal", "far"] ["net"] (aj dW) := ⟨rfl, rfl, rfl, by decide +kernel, rfl, by decide +kernel, by decide +kernel⟩
noncomputable def kP (k : List Int) : List Key := k.map Sum.inl
theorem pz (a b : List Int) (h : kP a = kP b) : a = b := by
  have := congrArg (List.map fun k : Key => match k with | .inl i => i | .inr _ => 0) h
  simpa [kP, List.map_map, Function.comp_def] using this
theorem eC (k : List Int) : eU (k.map Dv.int) = some (kP k) := oS k
noncomputable def dP (ae : List (List Int)) (p : List Int) (k : Nat) : List Int := jK ((ae.getD (p.getD 0 0).toNat []).getD k 0) ((ae.getD (p.getD 1 0).toNat []).getD k 0)
noncomputable abbrev jL := List (List Int × List Int)
noncomputable def fq (ae : List (List Int)) (n : Nat) (p : List Int) : jL := (List.range n).map fun k => (dP ae p k, p)
noncomputable def fT (ae : List (List Int)) (n : Nat) : jL := (aF ae.length).flatMap (fq ae n)
noncomputable def nY (ks : List (List Int)) (e : List Int × List Int) : List (List Int) := if e.1 ∈ ks then ks else ks ++ [e.1]
noncomputable def bN (E : jL) : List (List Int) := E.foldl nY []
noncomputable def ft (E : jL) (q : List Int) : List (List Int) := (E.filter fun e => decide (e.1 = q)).map (·.2)
theorem gD (E : jL) (e : List Int × List Int) : bN (E ++ [e]) = nY (bN E) e := by unfold bN; rw [List.foldl_append]; rfl
theorem kW (E : jL) (q p r : List Int) : ft (E ++ [(q, p)]) r = if q = r then ft E r ++ [p] else ft E r := by
  unfold ft
  rw [List.filter_append, List.map_append]
  by_cases h : q = r
  · rw [if_pos h]; simp [h]
  · rw [if_neg h]; simp [h]
theorem snoc_ind {α : Type} {p : List α → Prop} (h0 : p []) (h1 : ∀ l a, p l → p (l ++ [a])) : ∀ l, p l := fun l => by
  rw [← List.reverse_reverse l]
  induction l.reverse with
  | nil => exact h0
  | cons a l ih => rw [List.reverse_cons]; exact h1 _ _ ih
theorem zS {q : List Int} : ∀ E : jL, q ∈ bN E ↔ ∃ e ∈ E, e.1 = q := snoc_ind (by simp [bN]) fun E a ih => by
  rw [gD]
  unfold nY
  by_cases h : a.1 ∈ bN E
  · rw [if_pos h, ih]
    constructor
    · rintro ⟨e, he, rfl⟩; exact ⟨e, by simp [he], rfl⟩
    · rintro ⟨e, he, rfl⟩
      rcases List.mem_append.mp he with z | z
      · exact ⟨e, z, rfl⟩
      · have := List.mem_singleton.mp z
        subst this
        exact ih.mp h
  · rw [if_neg h, List.mem_append, ih, List.mem_singleton]
    constructor
    · rintro (⟨e, he, rfl⟩ | rfl)
      · exact ⟨e, by simp [he], rfl⟩
      · exact ⟨a, by simp, rfl⟩
    · rintro ⟨e, he, rfl⟩
      rcases List.mem_append.mp he with z | z
      · exact .inl ⟨e, z, rfl⟩
      · rw [List.mem_singleton.mp z]; exact .inr rfl
theorem BG : ∀ E : jL, (bN E).Nodup := snoc_ind (by simp [bN]) fun E a ih => by
  rw [gD]
  unfold nY
  split
  · exact ih
  · rename_i h
    rw [List.nodup_append]
    exact ⟨ih, by simp, fun x hx y hy e => h (by rw [List.mem_singleton.mp hy] at e; rw [← e]; exact hx)⟩
theorem zT (E : jL) : (bN E).length ≤ E.length := snoc_ind (p := fun E => (bN E).length ≤ E.length) (by simp [bN]) (fun E a ih => by
  rw [gD]
  unfold nY
  split <;> simp <;> omega) E
theorem Er (E : jL) (q : List Int) : (ft E q).length ≤ E.length := by
  unfold ft
  rw [List.length_map]
  exact List.length_filter_le _ _
theorem uf {E : jL} {q : List Int} (h : q ∉ bN E) : ft E q = [] := by
  unfold ft
  rw [List.map_eq_nil_iff, List.filter_eq_nil_iff]
  intro e he z
  exact h ((zS E).mpr ⟨e, he, by simpa using z⟩)
theorem jM {α : Type} {f : List Int → α} {q : List Int} : ∀ {ks : List (List Int)}, look (ks.map kP) (ks.map f) (kP q) = if q ∈ ks then some (f q) else none
  | [] => rfl
  | k :: ks => by
    rw [List.map_cons, List.map_cons]
    unfold look
    by_cases e : k = q
    · rw [if_pos (by rw [e]), if_pos (by simp [e]), e]
    · rw [if_neg (fun z => e (pz _ _ z)), jM (ks := ks)]
      simp [Ne.symm e]
theorem ug {α : Type} {q : List Int} : ∀ {ks : List (List Int)} {as : List α}, as.length = ks.length → (q ∉ ks ∧ look (ks.map kP) as (kP q) = none) ∨ ∃ (j : Nat) (a : α), ks[j]? = some q ∧ as[j]? = some a ∧ look (ks.map kP) as (kP q) = some a
  | [], as, _ => by cases as <;> exact .inl ⟨by simp, rfl⟩
  | k :: ks, [], h => by simp at h
  | k :: ks, a :: as, h => by
    rw [List.map_cons]
    unfold look
    by_cases e : k = q
    · subst e; exact .inr ⟨0, a, rfl, rfl, by rw [if_pos rfl]⟩
    · rw [if_neg (fun z => e (pz _ _ z))]
      rcases ug (q := q) (ks := ks) (as := as) (by simpa using h) with ⟨h1, h2⟩ | ⟨j, b, h1, h2, h3⟩
      · exact .inl ⟨by simp [Ne.symm e, h1], h2⟩
      · exact .inr ⟨j + 1, b, by simpa using h1, by simpa using h2, h3⟩
structure ComM (M0 M : Mh) (c : Addr) (as : List Addr) (E : jL) : Prop where
  c0 : M0 c = none
  cm : M c = some (.dt ((bN E).map kP) (as.map .ptr))
  len : as.length = (bN E).length
  am : ∀ (j : Nat) (a : Addr) (q : List Int), as[j]? = some a → (bN E)[j]? = some q → M a = some (.lst ((ft E q).map eI))
  a0 : ∀ a ∈ as, M0 a = none ∧ a ≠ c
  nd : as.Nodup
  kp : Keeps M0 M
theorem nH {M0 M : Mh} (h : Keeps M0 M) {a : Addr} (ha : M a = none) : M0 a = none := by
  cases e : M0 a with
  | none => rfl
  | some u => rw [h a u e] at ha; cases ha
theorem ComM.old {M0 M : Mh} {c a a' : Addr} {as : List Addr} {E : jL} {j : Nat} {q p : List Int} (C : ComM M0 M c as E) (hj : (bN E)[j]? = some q) (ha : as[j]? = some a) (hn : M a' = none) :
    ComM M0 (av (av M a' (.lst [])) a (.lst ((ft E q).map eI ++ [eI p]))) c as (E ++ [(q, p)]) := by
  have ek : bN (E ++ [(q, p)]) = bN E := by
    rw [gD]; unfold nY; rw [if_pos (List.mem_of_getElem? hj)]
  have C7 := C.am j a q ha hj
  have ne : ∀ b ∈ as, b ≠ a' := fun b hb e => by
    obtain ⟨i, hi⟩ := List.mem_iff_getElem?.mp hb
    have mi := (List.getElem?_eq_some_iff.mp hi).1
    have := C.am i b _ hi (List.getElem?_eq_getElem (by rw [← C.len]; exact mi))
    rw [e, hn] at this; cases this
  have Oo : c ≠ a := Ne.symm (C.a0 a (List.mem_of_getElem? ha)).2
  have nZ : c ≠ a' := fun e => by have := C.cm; rw [e, hn] at this; cases this
  refine ⟨C.c0, by rw [ao Oo, ao nZ, ek]; exact C.cm, by rw [ek]; exact C.len, fun i b r hb hr => ?_, C.a0, C.nd, ?_⟩
  · rw [ek] at hr
    have jB := ne b (List.mem_of_getElem? hb)
    by_cases e : b = a
    · subst e
      have e2 : i = j := (List.getElem?_inj (List.getElem?_eq_some_iff.mp hb).1 C.nd).mp (by rw [hb, ha])
      subst e2
      rw [hj] at hr; cases hr
      rw [updM_same, kW, if_pos rfl, List.map_append]
      rfl
    · rw [ao e, ao jB, C.am i b r hb hr, kW, if_neg]
      intro z
      subst z
      have e2 : i = j := (List.getElem?_inj (List.getElem?_eq_some_iff.mp hr).1 (BG E)).mp (by rw [hr, hj])
      subst e2
      rw [hb] at ha; cases ha
      exact e rfl
  · exact .upd (C.a0 a (List.mem_of_getElem? ha)).1 (.upd (nH C.kp hn) C.kp)
theorem ComM.new {M0 M : Mh} {c a' : Addr} {as : List Addr} {E : jL} {q p : List Int} (C : ComM M0 M c as E) (hq : q ∉ bN E) (hn : M a' = none) :
    ComM M0 (av (av (av M a' (.lst [])) c (.dt ((bN E).map kP ++ [kP q]) (as.map .ptr ++ [.ptr a']))) a' (.lst ([] ++ [eI p]))) c (as ++ [a']) (E ++ [(q, p)]) := by
  have ek : bN (E ++ [(q, p)]) = bN E ++ [q] := by
    rw [gD]; unfold nY; rw [if_neg hq]
  have ne : ∀ b ∈ as, b ≠ a' := fun b hb e => by
    obtain ⟨i, hi⟩ := List.mem_iff_getElem?.mp hb
    have mi := (List.getElem?_eq_some_iff.mp hi).1
    have := C.am i b _ hi (List.getElem?_eq_getElem (by rw [← C.len]; exact mi))
    rw [e, hn] at this; cases this
  have nZ : c ≠ a' := fun e => by have := C.cm; rw [e, hn] at this; cases this
  have h0 := nH C.kp hn
  refine ⟨C.c0, by rw [ao nZ, updM_same, ek, List.map_append, List.map_append]; rfl, by rw [ek, List.length_append, List.length_append, C.len]; rfl, fun i b r hb hr => ?_, fun b hb => ?_, ?_, .upd h0 (.upd C.c0 (.upd h0 C.kp))⟩
  · rw [ek] at hr
    by_cases hi : i < as.length
    · rw [List.getElem?_append_left hi] at hb
      rw [List.getElem?_append_left (by rw [← C.len]; exact hi)] at hr
      have jB := List.mem_of_getElem? hb
      rw [ao (ne b jB), ao (C.a0 b jB).2, ao (ne b jB), C.am i b r hb hr, kW, if_neg]
      intro z; subst z; exact hq (List.mem_of_getElem? hr)
    · have mi := (List.getElem?_eq_some_iff.mp hb).1
      rw [List.length_append, List.length_singleton] at mi
      have jY : i = as.length := by omega
      subst jY
      rw [List.getElem?_append_right (Nat.le_refl _), Nat.sub_self] at hb
      rw [C.len, List.getElem?_append_right (Nat.le_refl _), Nat.sub_self] at hr
      cases hb; cases hr
      rw [updM_same, kW, if_pos rfl, uf hq]
      rfl
  · rcases List.mem_append.mp hb with z | z
    · exact C.a0 b z
    · rw [List.mem_singleton.mp z]; exact ⟨h0, Ne.symm nZ⟩
  · rw [List.nodup_append]
    exact ⟨C.nd, by simp, fun x hx y hy e => ne x hx (by rw [List.mem_singleton.mp hy] at e; exact e)⟩
noncomputable def uh (ae : List (List Int)) (n : Nat) : Dv := .dt ((bN (fT ae n)).map kP) ((bN (fT ae n)).map fun q => .lst ((ft (fT ae n) q).map eI))
noncomputable def qd : cU := fun ds M Q _ => ∃ ae n, ds = [eN ae] ∧ dQ ae n ∧ Q (uh ae n) M
theorem mW {ae : List (List Int)} {n a : Nat} (O : dQ ae n) (ha : a < ae.length) : c6 (ae.map eI) (a : Int) = some (eI (ae.getD a [])) ∧ (ae.getD a []).length = n := by
  have e : ae.getD a [] = ae[a] := by rw [List.getD_eq_getElem?_getD, List.getElem?_eq_getElem ha]; rfl
  rw [e]
  exact ⟨eE (by rw [List.getElem?_map, List.getElem?_eq_getElem ha]; rfl), (O.row _ (List.getElem_mem ha)).1⟩
theorem pA {f f1 f2 : Addr} {fd cW fd2 : FuncData} (D : Df K mg "coming_pairs" dW ["net"] f fd)
    (aY : Df K mg "all_pairs" dI ["net"] f1 cW) (cD : FnOk P w K mg base bc 1 f1 cW ["net"] (aT P w K tb px))
    (fh : Df K mg "in_order" iN ["one", "other"] f2 fd2) (kX : FnOk P w K mg base bc 1 f2 fd2 ["one", "other"] (aT P w K tb HQ)) (bl : Bl mg) :
    FnOk P w K mg base bc 2 f fd ["net"] (aT P w K tb qd) := by
  refine dS D cL (fun ds M Q E hS => by obtain ⟨ae, n, e, _⟩ := hS; rw [e]; rfl) fun A outer s E Γ ds Q' E' hP hw hK ht hr hS => ?_
  obtain ⟨ae, n, e, O, q⟩ := hS
  refine ⟨_, (ah (aQ (i := 1) cL.nd rfl (Or.inl rfl) Bm)
    (ah (gz PassesOwn.never rfl (cX (K := K) rfl (aH cD (hr.mono (by decide)) rfl aY.mg aY.fn.kp aY.bd aW hP hw hK ht XR.none (aa (qv 0) af))) (fun pj eP ew eK et => by have hP := hP.trans eP.symm; have hw := hw.trans ew.symm; have hK := hK.trans eK.symm; have ht := ht.trans et.symm; exact ⟨(ja (n := 2) rfl (b7 (aG (i := 2) cL.nd rfl (Or.inl rfl)) (b7 (aG (i := 3) cL.nd rfl (Or.inl rfl)) gQ))), (aw (gz PassesOwn.never rfl (j8 false false (K := K) rfl rfl bl.zip_ (b0 (dq (K := K) rfl) (qv 0) (qv 2) (fun _ _ => rfl)) (b0 (dq (K := K) rfl) (qv 0) (qv 3) (fun _ _ => rfl))) (fun pj eP ew eK et => by have hP := hP.trans eP.symm; have hw := hw.trans ew.symm; have hK := hK.trans eK.symm; have ht := ht.trans et.symm; exact ⟨(ja (n := 2) rfl (b7 (aG (i := 4) cL.nd rfl (Or.inl rfl)) (b7 (aG (i := 5) cL.nd rfl (Or.inl rfl)) gQ))), (aw (iR (mO (K := K) rfl PySem.F.plainAttrs_list PySem.F.slot_list_append PySem.F.type_list_append nR (mO (K := K) rfl PySem.F.plainAttrs_dict PySem.F.slot_dict_setdefault PySem.F.type_dict_setdefault (Br hr.units) (qv 1) (aa (aH kX (hr.mono (by decide)) rfl fh.mg fh.fn.kp fh.bd aW hP hw hK ht XR.none (aa (qv 4) (aa (qv 5) af))) (aa (mK af) af))) (aa (ir (aa (qv 2) (aa (qv 3) af))) af))))⟩)))⟩))
    (aw (aP (qv 1))))), ?_⟩
  subst e
  have h9 := O.nine
  have C8 := O.wid
  have big : (1000 : Nat) < sizeLine := by decide
  simp! only []
  intro c hc
  refine ⟨ae, n, rfl, O, ?_⟩
  refine dC (fun i ρ M => ∃ as, (∃ x2 x3 x4 x5, ρ = [some (eN ae), some (.ptr c), x2, x3, x4, x5]) ∧ ComM Γ.M0 M c as (((aF ae.length).take i).flatMap (fq ae n))) ⟨[], ⟨_, _, _, _, rfl⟩, ⟨hc, updM_same, rfl, (fun j a q h => nomatch h), (fun a h => nomatch h), .nil, .upd hc .refl⟩⟩ (fun i d ρ M N hd hJ hN => ?_) (fun ρ M hJ => ?_)
  · obtain ⟨as, ⟨x2, x3, x4, x5, rfl⟩, C⟩ := hJ
    obtain ⟨p, hp, rfl⟩ := jc hd
    have Oq := List.mem_of_getElem? hp
    obtain ⟨a, b, dj, hb, rfl⟩ := bZ.mp Oq
    obtain ⟨ea, la⟩ := mW O (show a < ae.length by omega)
    obtain ⟨eb, lb⟩ := mW O hb
    simp! only [ea, eb]
    refine dC (fun j ρ M => ∃ as, (∃ x4 x5, ρ = [some (eN ae), some (.ptr c), some (.int (a : Nat)), some (.int (b : Nat)), x4, x5]) ∧ ComM Γ.M0 M c as (((aF ae.length).take i).flatMap (fq ae n) ++ (fq ae n [(a : Int), (b : Int)]).take j)) ⟨as, ⟨_, _, rfl⟩, by simpa using C⟩ (fun j d ρ M N2 hd hJ mq => ?_) (fun ρ M hJ => ?_)
    · obtain ⟨as, ⟨x4, x5, rfl⟩, C⟩ := hJ
      obtain ⟨x, y, rfl, hx, hy⟩ := iu hd
      rw [List.getElem?_map] at hx hy
      obtain ⟨gx, jH, rfl⟩ := Option.map_eq_some_iff.mp hx
      obtain ⟨gy, K7, rfl⟩ := Option.map_eq_some_iff.mp hy
      have hj : j < n := by have := (List.getElem?_eq_some_iff.mp jH).1; omega
      have eg : dP ae [(a : Int), (b : Int)] j = jK gx gy := by
        unfold dP
        simp only [List.getD_cons_zero, List.getD_cons_succ, Int.toNat_natCast]
        rw [List.getD_eq_getElem?_getD (l := ae.getD a []), jH, List.getD_eq_getElem?_getD (l := ae.getD b []), K7]
        rfl
      obtain ⟨E, hE⟩ : ∃ E, E = ((aF ae.length).take i).flatMap (fq ae n) ++ (fq ae n [(a : Int), (b : Int)]).take j := ⟨_, rfl⟩
      have eT : ((aF ae.length).take i).flatMap (fq ae n) ++ (fq ae n [(a : Int), (b : Int)]).take (j + 1) = E ++ [(jK gx gy, [(a : Int), (b : Int)])] := by
        rw [hE, List.append_assoc]
        congr 1
        have : (fq ae n [(a : Int), (b : Int)])[j]? = some (jK gx gy, [(a : Int), (b : Int)]) := by
          unfold fq
          rw [List.getElem?_map, List.getElem?_range hj, ← eg]
          rfl
        rw [List.take_succ, this]
        rfl
      have O7 : E.length ≤ 111 := by
        rw [hE, List.length_append, List.length_flatMap]
        have h1 : ((((aF ae.length).take i).map fun p => (fq ae n p).length)).sum ≤ 36 * 3 := by
          have : (((aF ae.length).take i).map fun p => (fq ae n p).length) = List.replicate ((aF ae.length).take i).length n := by
            rw [List.eq_replicate_iff]
            refine ⟨by simp, fun x hx => ?_⟩
            obtain ⟨p, _, rfl⟩ := List.mem_map.mp hx
            simp [fq]
          rw [this, List.sum_replicate_nat]
          have h1 : ((aF ae.length).take i).length ≤ 36 := Nat.le_trans (List.length_take_le' ..) (pairs_len h9)
          exact Nat.mul_le_mul h1 (by omega)
        have h2 : ((fq ae n [(a : Int), (b : Int)]).take j).length ≤ n := Nat.le_trans (List.length_take_le' ..) (by simp [fq])
        omega
      rw [← hE] at C
      rw [eT] at mq
      have K3 := zT E
      have O8 := Er E (jK gx gy)
      simp! only [C.cm]
      refine ⟨_, _, rfl, by decide, fun a' hn => ?_⟩
      have nZ : c ≠ a' := fun e => by have := C.cm; rw [e, hn] at this; cases this
      simp only [ao nZ, C.cm, eC]
      refine ⟨by rw [List.length_map]; omega, ?_⟩
      rcases ug (q := jK gx gy) (ks := bN E) (as := as.map Dv.ptr) (by rw [List.length_map]; exact C.len) with ⟨h1, h2⟩ | ⟨k, v, h1, h2, h3⟩
      · simp only [h2, ao (Ne.symm nZ), updM_same]
        exact ⟨trivial, by decide, by decide, mq _ _ ⟨as ++ [a'], ⟨_, _, rfl⟩, C.new (p := [(a : Int), (b : Int)]) h1 hn⟩⟩
      · rw [List.getElem?_map] at h2
        obtain ⟨ak, oV, rfl⟩ := Option.map_eq_some_iff.mp h2
        have C7 := C.am k ak _ oV h1
        have fY : ak ≠ a' := fun e => by rw [e, hn] at C7; cases C7
        simp only [h3, ao fY, C7]
        exact ⟨trivial, by decide, by rw [List.length_map]; omega, mq _ _ ⟨as, ⟨_, _, rfl⟩, C.old (p := [(a : Int), (b : Int)]) h1 oV hn⟩⟩
    · obtain ⟨as, ⟨x4, x5, rfl⟩, C⟩ := hJ
      refine hN _ _ ⟨as, ⟨_, _, _, _, rfl⟩, ?_⟩
      have e1 : ((aF ae.length).take (i + 1)).flatMap (fq ae n) = ((aF ae.length).take i).flatMap (fq ae n) ++ fq ae n [(a : Int), (b : Int)] := by
        rw [List.take_succ, hp, List.flatMap_append]
        simp
      rw [e1]
      have el : (bP (List.map Dv.int (ae.getD a [])) (List.map Dv.int (ae.getD b []))).length = n := by rw [pairsD_len, List.length_map, List.length_map, la, lb, Nat.min_self]
      rw [el, List.take_of_length_le (l := fq ae n [(a : Int), (b : Int)]) (by simp [fq])] at C
      exact C
  · obtain ⟨as, ⟨x2, x3, x4, x5, rfl⟩, C⟩ := hJ
    rw [List.length_map, List.take_length] at C
    simp! only []
    refine .inr ⟨C.kp, uh ae n, .dt C.c0 C.cm (by rw [List.length_map, List.length_map]; exact C.len) fun j d d' e1 e2 => ?_, q⟩
    rw [List.getElem?_map] at e1 e2
    obtain ⟨a, ha, rfl⟩ := Option.map_eq_some_iff.mp e1
    obtain ⟨k, hk, rfl⟩ := Option.map_eq_some_iff.mp e2
    refine .ptr (C.a0 a (List.mem_of_getElem? ha)).1 (C.am j a k ha hk) rfl fun i d d' e1 e2 => ?_
    rw [show ft (fT ae n) k = ft ((aF ae.length).flatMap (fq ae n)) k from rfl, e1] at e2
    cases e2
    obtain ⟨r, _, rfl⟩ := List.mem_map.mp (List.mem_of_getElem? e1)
    exact .pin (j9 r)
end
section
variable {P : Program} {w : World} {K : PySem.W.Frag} {mg : Str → Option Value} {base : Heap} {tb : da}
theorem d7 : aU ["coming", "goals", "found", "queue", "goal", "pair"] ["coming", "goals"] (aj dy) := ⟨rfl, rfl, rfl, by decide +kernel, rfl, by decide +kernel, by decide +kernel⟩
noncomputable def dD (m : Nat) : List (List Int) := (List.range m).map fun i : Nat => [(i : Int), (i : Int)]
noncomputable def h8 (m : Nat) : List (List Int) := aF m ++ dD m
theorem ui {m : Nat} (h : m ≤ 9) : (h8 m).length ≤ 45 := by
  unfold h8 dD
  have := pairs_len h
  simp
  omega
theorem kY {m : Nat} {p : List Int} : p ∈ h8 m ↔ ∃ a b : Nat, a ≤ b ∧ b < m ∧ p = [(a : Int), (b : Int)] := by
  unfold h8 dD
  rw [List.mem_append, bZ, List.mem_map]
  constructor
  · rintro (⟨a, b, h1, h2, rfl⟩ | ⟨a, h, rfl⟩)
    · exact ⟨a, b, by omega, h2, rfl⟩
    · exact ⟨a, a, Nat.le_refl _, List.mem_range.mp h, rfl⟩
  · rintro ⟨a, b, h1, h2, rfl⟩
    by_cases e : a = b
    · subst e; exact .inr ⟨a, List.mem_range.mpr h2, rfl⟩
    · exact .inl ⟨a, b, by omega, h2, rfl⟩
theorem BH {m : Nat} {x y : Int} (hx : 0 ≤ x ∧ x < m) (hy : 0 ≤ y ∧ y < m) : jK x y ∈ h8 m := by
  obtain ⟨a, rfl⟩ := Int.eq_ofNat_of_zero_le hx.1
  obtain ⟨b, rfl⟩ := Int.eq_ofNat_of_zero_le hy.1
  rw [kY]
  unfold jK
  by_cases h : (a : Int) < (b : Int)
  · rw [if_pos h]; exact ⟨a, b, by omega, by omega, rfl⟩
  · rw [if_neg h]; exact ⟨b, a, by omega, by omega, rfl⟩
inductive dE (ae : List (List Int)) (n : Nat) (G : List Int → Prop) : List Int → Prop where
  | base {p : List Int} (h : G p) : dE ae n G p
  | step {p : List Int} {k : Nat} (hp : p ∈ aF ae.length) (hk : k < n) (h : dE ae n G (dP ae p k)) : dE ae n G p
theorem vO {ae : List (List Int)} {n : Nat} {p q : List Int} : p ∈ ft (fT ae n) q ↔ p ∈ aF ae.length ∧ ∃ k, k < n ∧ dP ae p k = q := by
  unfold ft fT fq
  simp only [List.mem_map, List.mem_filter, List.mem_flatMap, List.mem_range, decide_eq_true_eq]
  constructor
  · rintro ⟨e, ⟨⟨p', hp, k, hk, rfl⟩, rfl⟩, rfl⟩
    exact ⟨hp, k, hk, rfl⟩
  · rintro ⟨hp, k, hk, rfl⟩
    exact ⟨_, ⟨⟨p, hp, k, hk, rfl⟩, rfl⟩, rfl⟩
theorem Es {ae : List (List Int)} {n : Nat} {g : List Int} : (look ((bN (fT ae n)).map kP) ((bN (fT ae n)).map fun q => Dv.lst ((ft (fT ae n) q).map eI)) (kP g)).getD (.lst []) = .lst ((ft (fT ae n) g).map eI) := by
  rw [jM]
  split
  · rfl
  · rename_i h
    rw [uf h]
    rfl
noncomputable def wZ (ks : List (List Int)) : Dv := .dt (ks.map kP) (ks.map fun _ => .bl true)
noncomputable def uj : cU := fun ds M Q _ => ∃ (ae : List (List Int)) (n : Nat) (gs : List (List Int)), ds = [uh ae n, .lst (gs.map eI)] ∧ dQ ae n ∧ gs.Nodup ∧ (∀ p ∈ gs, p ∈ h8 ae.length) ∧ ∀ ks : List (List Int), (∀ p, p ∈ ks ↔ dE ae n (· ∈ gs) p) → ks.length ≤ 45 → Q (wZ ks) M
theorem BI {ae : List (List Int)} {n : Nat} {G : List Int → Prop} (hG : ∀ p, G p → p ∈ h8 ae.length) {p : List Int} (h : dE ae n G p) : p ∈ h8 ae.length := by
  cases h with
  | base h => exact hG _ h
  | step hp _ _ => exact List.mem_append_left _ hp
theorem qf {f : Addr} {fd : FuncData} (D : Df K mg "led_to_some" dy ["coming", "goals"] f fd) (bl : Bl mg) :
    FnOk P w K mg base bc 1 f fd ["coming", "goals"] (aT P w K tb uj) := by
  refine dS D d7 (fun ds M Q E hS => by obtain ⟨ae, n, gs, e, _⟩ := hS; rw [e]; rfl) fun A outer s E Γ ds Q' E' hP hw hK ht hr hS => ?_
  obtain ⟨ae, n, gs, e, O, HR, hu, q⟩ := hS
  refine ⟨_, (ah (uT (i := 2) hr.units d7.nd rfl rfl (N' := ["goal"]) (tn := 1) (idx := []) rfl (show aB ["coming", "goals", "found", "queue", "goal", "pair"] (aj dy) _ ["goal"] 1 [] from by decide +kernel) (cX (K := K) rfl (qv 1)) (fun _ _ _ _ _ => (aG (i := 0) (show List.Nodup [("goal" : Str)] from by decide +kernel) rfl (Or.inl rfl))) (fun _ _ _ _ _ => bB) (fun _ _ _ _ _ => (qv 0)) (fun _ _ _ _ _ => fc))
    (ah (aQ (i := 3) d7.nd rfl (Or.inl rfl) (lZ (DY (K := K) rfl) rfl bl.list_ gP (aa (qv 1) af)))
    (ah (nO PassesOwn.never (Bf (qv 3))
      (ah (aQ (i := 4) d7.nd rfl (Or.inl rfl) (yW (K := K) rfl PySem.F.plainAttrs_list PySem.F.slot_list_pop PySem.F.type_list_pop JC (qv 3)))
    (aw (gz PassesOwn.never rfl (cX (K := K) rfl (HC (K := K) PySem.F.plainAttrs_dict PySem.F.slot_dict_get PySem.F.type_dict_get (Hf hr.units) (qv 0) (aa (qv 4) (aa (sY af) af)))) (fun pj eP ew eK et => by have hP := hP.trans eP.symm; have hw := hw.trans ew.symm; have hK := hK.trans eK.symm; have ht := ht.trans et.symm; exact ⟨(aG (i := 5) d7.nd rfl (Or.inl rfl)), (aw (bU (bb (nT hr.units) (qv 5) (qv 2) (by rfl))
      (ah (Eb hr.units (qv 2) (qv 5) fc)
    (aw (iR (mO (K := K) rfl PySem.F.plainAttrs_list PySem.F.slot_list_append PySem.F.type_list_append nR (qv 3) (aa (qv 5) af)))))
      qss_nil))⟩)))))
    (aw (aP (qv 2)))))), ?_⟩
  subst e
  have h9 := O.nine
  have C8 := O.wid
  have big : (1000 : Nat) < sizeLine := by decide
  have qK : gs.length ≤ 45 := Nat.le_trans (fK _ _ HR hu) (ui h9)
  simp! only []
  refine zE (fun i ks es τ M => (∃ x, τ = [x]) ∧ M = Γ.M0 ∧ ks = (gs.take i).map kP ∧ es = (gs.take i).map fun _ => Dv.bl true) (i := 0) ⟨⟨_, rfl⟩, rfl, rfl, rfl⟩ (fun i d ks es τ M hd hI R hR => ?_) fun ks es τ M hI => ?_
  · obtain ⟨⟨x, rfl⟩, rfl, rfl, rfl⟩ := hI
    obtain ⟨p, hp, rfl⟩ := jc hd
    simp! only [eC, Nat.zero_add]
    have hl : (gs.take i).length ≤ 45 := Nat.le_trans (List.length_take_le' ..) qK
    have MA : p ∉ gs.take i := fun h => by
      obtain ⟨j, hj⟩ := List.mem_iff_getElem?.mp h
      rw [List.getElem?_take] at hj
      split at hj
      · have hi := (List.getElem?_eq_some_iff.mp hp).1
        have := (List.getElem?_inj (List.getElem?_eq_some_iff.mp hj).1 HR).mp (hj.trans hp.symm)
        omega
      · cases hj
    obtain ⟨p1, p2⟩ := vH (k := kP p) (d := Dv.bl true) (ks := (gs.take i).map kP) (ds := (gs.take i).map fun _ => Dv.bl true) fun h => MA ((nC pz).mp h)
    rw [p1, p2]
    have et : gs.take (i + 1) = gs.take i ++ [p] := by rw [List.take_succ, hp]; rfl
    refine ⟨by omega, hR _ _ _ _ ⟨⟨_, rfl⟩, rfl, ?_, ?_⟩⟩
    · rw [Nat.zero_add, et, List.map_append]; rfl
    · rw [Nat.zero_add, et, List.map_append]; rfl
  · obtain ⟨⟨x, rfl⟩, rfl, rfl, rfl⟩ := hI
    rw [List.length_map, Nat.zero_add, List.take_length]
    intro a ha b hb
    have zU : b ≠ a := fun z => by rw [z, updM_same] at hb; cases hb
    have HS : Γ.M0 b = none := by rw [ao zU] at hb; exact hb
    let I : Nat → List (List Int) → List (List Int) → aA → Mh → Prop := fun m ks qs ρ M => (∃ x4 x5, ρ = [some (uh ae n), some (.lst (gs.map eI)), some (.ptr a), some (.ptr b), x4, x5]) ∧ M a = some (.dt (ks.map kP) (ks.map fun _ => Dv.bl true)) ∧ M b = some (.lst (qs.map eI)) ∧ Keeps Γ.M0 M ∧ ks.Nodup ∧ (∀ x ∈ qs, x ∈ ks) ∧ (∀ x ∈ gs, x ∈ ks) ∧ (∀ x ∈ ks, dE ae n (· ∈ gs) x) ∧ 2 * (45 - ks.length) + qs.length = m ∧ m ≤ 200
    have ku : ∀ ks : List (List Int), ks.Nodup → (∀ x ∈ ks, dE ae n (· ∈ gs) x) → ks.length ≤ 45 := fun ks h1 h2 => Nat.le_trans (fK _ _ h1 fun x hx => BI hu (h2 x hx)) (ui h9)
    refine ⟨fun m ρ M => ∃ ks qs, I m ks qs ρ M ∧ ∀ g ∈ ks, g ∈ qs ∨ ∀ p ∈ ft (fT ae n) g, p ∈ ks, ⟨_, gs, gs, ⟨⟨_, _, rfl⟩, by rw [ao (Ne.symm zU), updM_same], updM_same, .upd HS (.upd ha .refl), HR, fun x h => h, fun x h => h, fun x h => .base h, rfl, by omega⟩, fun g hg => .inl hg⟩, ?_⟩
    rintro m ρ M ⟨ks, qs, ⟨⟨x4, x5, rfl⟩, K8, Ot, kp, k1, k2, k3, k4, rfl, Ou⟩, d9⟩
    have kl := ku ks k1 k4
    simp! only [Ot, truD]
    rcases List.eq_nil_or_concat qs with rfl | ⟨qs, g, rfl⟩
    · rw [if_neg (by simp)]
      refine .inr ⟨kp, wZ ks, .dt ha K8 rfl fun j d d' e1 e2 => ?_, q ks (fun p => ⟨k4 p, fun h => ?_⟩) kl⟩
      · rw [e1] at e2; cases e2
        obtain ⟨_, _, rfl⟩ := List.mem_map.mp (List.mem_of_getElem? e1)
        exact .pin (.bl true)
      · induction h with
        | base h => exact k3 _ h
        | step hp hk _ ih => exact ((d9 _ ih).resolve_left (fun z => nomatch z)) _ (vO.mpr ⟨hp, _, hk, rfl⟩)
    · rw [List.concat_eq_append] at *
      have e1 : (List.map eI (qs ++ [g])).isEmpty = false := by simp
      have e2 : (List.map eI (qs ++ [g]))[(qs ++ [g]).length - 1]? = some (.tup (g.map Dv.int)) := by simp [eI]
      have e3 : (List.map eI (qs ++ [g])).dropLast = qs.map eI := by simp
      rw [if_pos (by rw [e1]; rfl)]
      simp only [e2, e3, uh, eC, Es]
      refine ⟨trivial, Nat.zero_le _, ?_⟩
      have hg : g ∈ ks := k2 g (by simp)
      refine dC (fun i ρ M => ∃ eV uk m2, I m2 eV uk ρ M ∧ m2 < 2 * (45 - ks.length) + (qs ++ [g]).length ∧ (∀ x ∈ ks, x ∈ eV) ∧ (∀ h ∈ eV, h = g ∨ h ∈ uk ∨ ∀ p ∈ ft (fT ae n) h, p ∈ eV) ∧ ∀ p ∈ (ft (fT ae n) g).take i, p ∈ eV)
        ⟨ks, qs, _, ⟨⟨_, _, rfl⟩, by rw [ao (Ne.symm zU)]; exact K8, updM_same, .upd HS kp, k1, fun x hx => k2 x (by simp [hx]), k3, k4, rfl, by rw [List.length_append, List.length_singleton] at Ou; omega⟩, by rw [List.length_append, List.length_singleton]; omega, fun x h => h, fun h hh => ?_, fun p hp => by simp at hp⟩ (fun i d ρ M N2 hd hJ mq => ?_) (fun ρ M hJ => ?_)
      · rcases d9 h hh with z | z
        · rcases List.mem_append.mp z with z | z
          · exact .inr (.inl z)
          · exact .inl (List.mem_singleton.mp z)
        · exact .inr (.inr z)
      · obtain ⟨eV, uk, m2, ⟨⟨y4, y5, rfl⟩, K9, La, Lb, g1, g2, g3, g4, rfl, Ov⟩, gm, zK, C9, gt⟩ := hJ
        obtain ⟨p, hp, rfl⟩ := jc hd
        have gl := ku eV g1 g4
        have pm := List.mem_of_getElem? hp
        have pl : dE ae n (· ∈ gs) p := by
          obtain ⟨h1, k, hk, h2⟩ := vO.mp pm
          exact .step h1 hk (h2 ▸ g4 g (zK g hg))
        have et : (ft (fT ae n) g).take (i + 1) = (ft (fT ae n) g).take i ++ [p] := by rw [List.take_succ, hp]; rfl
        simp! only [K9, eC, jM]
        by_cases ka : p ∈ eV
        · rw [if_pos ka, if_neg (by simp)]
          refine mq _ _ ⟨eV, uk, _, ⟨⟨_, _, rfl⟩, K9, La, Lb, g1, g2, g3, g4, rfl, Ov⟩, gm, zK, C9, fun x hx => ?_⟩
          rw [et] at hx
          rcases List.mem_append.mp hx with z | z
          · exact gt x z
          · rw [List.mem_singleton.mp z]; exact ka
        · rw [if_neg ka, if_pos (by simp)]
          obtain ⟨p1, p2⟩ := vH (k := kP p) (d := Dv.bl true) (ks := eV.map kP) (ds := eV.map fun _ => Dv.bl true) fun h => ka ((nC pz).mp h)
          have pB : (eV ++ [p]).Nodup := by
            rw [List.nodup_append]
            exact ⟨g1, by simp, fun x hx y hy e => ka (by rw [List.mem_singleton.mp hy] at e; rw [← e]; exact hx)⟩
          have l2 : ∀ x ∈ eV ++ [p], dE ae n (· ∈ gs) x := fun x hx => by
            rcases List.mem_append.mp hx with z | z
            · exact g4 x z
            · rw [List.mem_singleton.mp z]; exact pl
          have Ow := ku _ pB l2
          rw [List.length_append, List.length_singleton] at Ow
          simp only [p1, p2, ao zU, La]
          refine ⟨by omega, trivial, by rw [List.length_map]; omega, mq _ _ ⟨eV ++ [p], uk ++ [p], _, ⟨⟨_, _, rfl⟩, ?_, ?_, .upd HS (.upd ha Lb), pB, fun x hx => ?_, fun x hx => List.mem_append_left _ (g3 x hx), l2, rfl, ?_⟩, ?_, fun x hx => List.mem_append_left _ (zK x hx), fun h hh => ?_, fun x hx => ?_⟩⟩
          · rw [ao (Ne.symm zU), updM_same, List.map_append, List.map_append]; rfl
          · rw [updM_same, List.map_append]; rfl
          · rcases List.mem_append.mp hx with z | z
            · exact List.mem_append_left _ (g2 x z)
            · exact List.mem_append_right _ z
          · rw [List.length_append, List.length_append, List.length_singleton]; omega
          · rw [List.length_append, List.length_append, List.length_singleton]; omega
          · rcases List.mem_append.mp hh with z | z
            · rcases C9 h z with w | w | w
              · exact .inl w
              · exact .inr (.inl (List.mem_append_left _ w))
              · exact .inr (.inr fun r hr => List.mem_append_left _ (w r hr))
            · exact .inr (.inl (List.mem_append_right _ z))
          · rw [et] at hx
            rcases List.mem_append.mp hx with z | z
            · exact List.mem_append_left _ (gt x z)
            · exact List.mem_append_right _ z
      · obtain ⟨eV, uk, m2, h1, gm, zK, C9, gt⟩ := hJ
        rw [List.length_map, List.take_length] at gt
        exact ⟨m2, gm, eV, uk, h1, fun h hh => by
          rcases C9 h hh with rfl | z
          · exact .inr gt
          · exact z⟩
end
section
variable {P : Program} {w : World} {K : PySem.W.Frag} {mg : Str → Option Value} {base : Heap} {tb : da} {C_NoNet : Addr}
theorem gE : aU ["net", "ends", "called"] ["net"] (aj cY) := ⟨rfl, rfl, rfl, by decide +kernel, rfl, by decide +kernel, by decide +kernel⟩
theorem gF : aU ["net", "never", "shaken"] ["net"] (aj dX) := ⟨rfl, rfl, rfl, by decide +kernel, rfl, by decide +kernel, by decide +kernel⟩
open Classical in
noncomputable def jT (ae : List (List Int)) (n : Nat) (G : List Int → Prop) : List (List Int) := (aF ae.length).filter fun p => decide (¬ dE ae n G p)
noncomputable def pC (ae : List (List Int)) (n : Nat) : List (List Int) := jT ae n (· ∈ dD ae.length)
noncomputable def bC (ae : List (List Int)) (n : Nat) : List (List Int) := jT ae n (· ∈ pC ae n)
open Classical in
theorem gb {ae : List (List Int)} {n : Nat} {G : List Int → Prop} {p : List Int} : p ∈ jT ae n G ↔ p ∈ aF ae.length ∧ ¬ dE ae n G p := by
  unfold jT
  rw [List.mem_filter, decide_eq_true_eq]
theorem vP {ae : List (List Int)} {n : Nat} {G : List Int → Prop} (h9 : ae.length ≤ 9) : (jT ae n G).length ≤ 36 := Nat.le_trans (List.length_filter_le _ _) (pairs_len h9)
theorem HU {ae : List (List Int)} {n : Nat} {G : List Int → Prop} (h9 : ae.length ≤ 9) : (jT ae n G).Nodup := (u0 h9).filter _
open Classical in
theorem um {ae : List (List Int)} {n : Nat} {G : List Int → Prop} {ks : List (List Int)} (h : ∀ p, p ∈ ks ↔ dE ae n G p) :
    ((aF ae.length).map eI).filter (fun d => match d with | .tup es => (match eU es with | some k => !(look (ks.map kP) (ks.map fun _ => Dv.bl true) k).isSome | none => false) | _ => false) = (jT ae n G).map eI := by
  unfold jT
  rw [List.filter_map]
  congr 1
  refine List.filter_congr fun p _ => ?_
  show (match eU (p.map Dv.int) with | some k => !(look (ks.map kP) (ks.map fun _ => Dv.bl true) k).isSome | none => false) = _
  rw [eC]
  dsimp only
  rw [jM]
  by_cases z : p ∈ ks
  · rw [if_pos z]
    exact (decide_eq_false fun w => w ((h p).mp z)).symm
  · rw [if_neg z]
    exact (decide_eq_true (p := ¬ dE ae n G p) fun w => z ((h p).mpr w)).symm
theorem Et (m : Nat) : (dD m).Nodup := by
  unfold dD
  exact List.pairwise_map.mpr (List.nodup_range.imp fun h e => h (by have := (List.cons.inj e).1; omega))
noncomputable def zNever : cU := fun ds M Q _ => ∃ ae n, ds = [eN ae] ∧ dQ ae n ∧ Q (.lst ((pC ae n).map eI)) M
theorem pD {f f1 f2 f3 f4 : Addr} {fd cW fd2 jJ pE : FuncData} (D : Df K mg "never_called" cY ["net"] f fd)
    (fi : Df K mg "need_net" iM ["thing"] f1 cW) (kZ : FnOk P w K mg base (fy P w) 7 f1 cW ["thing"] (aT P w K tb (C6 C_NoNet)))
    (aY : Df K mg "all_pairs" dI ["net"] f2 fd2) (cD : FnOk P w K mg base bc 1 f2 fd2 ["net"] (aT P w K tb px))
    (bo : Df K mg "coming_pairs" dW ["net"] f3 jJ) (g9 : FnOk P w K mg base bc 2 f3 jJ ["net"] (aT P w K tb qd))
    (bz : Df K mg "led_to_some" dy ["coming", "goals"] f4 pE) (iz : FnOk P w K mg base bc 1 f4 pE ["coming", "goals"] (aT P w K tb uj)) (bl : Bl mg) :
    FnOk P w K mg base (fy P w) 8 f fd ["net"] (aT P w K tb zNever) := by
  refine wz D gE (fun ds M Q E hS => by obtain ⟨ae, n, e, _⟩ := hS; rw [e]; rfl) fun A outer s E Γ ds Q' E' hP hw hK ht hE hr hS => ?_
  obtain ⟨ae, n, e, O, q⟩ := hS
  refine ⟨_, (ah (iR (aH kZ (hr.mono (by decide)) rfl fi.mg fi.fn.kp fi.bd Ct hP hw hK ht hE (aa (qv 0) af)))
    (ah (wA (i := 1) gE.nd rfl rfl (N' := ["place"]) (tn := 1) (idx := []) rfl (show aB ["net", "ends", "called"] (aj cY) _ ["place"] 1 [] from by decide +kernel) (bY rfl bl.range_ (aa (az (eB (K := K) rfl hK) rfl bl.len_ PySem.boot_len (aa (qv 0) af)) af)) (fun _ _ _ _ _ => (aG (i := 0) (show List.Nodup [("place" : Str)] from by decide +kernel) rfl (Or.inl rfl))) (fun _ _ _ _ _ => bB) (fun _ _ _ _ _ => (ir (aa (qv 0) (aa (qv 0) af)))))
    (ah (aQ (i := 2) gE.nd rfl (Or.inr rfl) (aH iz (hr.mono (by decide)) rfl bz.mg bz.fn.kp bz.bd aW hP hw hK ht XR.none (aa (aH g9 (hr.mono (by decide)) rfl bo.mg bo.fn.kp bo.bd aW hP hw hK ht XR.none (aa (qv 0) af)) (aa (qv 1) af))))
    (aw (aP (bq (N' := ["pair", "called"]) (tn := 1) (idx := [2]) rfl (show aB ["net", "ends", "called"] (aj cY) _ ["pair", "called"] 1 [2] from by decide +kernel) (cX (K := K) rfl (aH cD (hr.mono (by decide)) rfl aY.mg aY.fn.kp aY.bd aW hP hw hK ht XR.none (aa (qv 0) af))) (fun _ _ _ _ _ => (aG (i := 0) (show List.Nodup [("pair" : Str), ("called" : Str)] from by decide +kernel) rfl (Or.inl rfl))) (fun _ _ _ _ _ => (j6 (bb (nT hr.units) (qv 0) (qv 1) (by rfl)))) (fun _ _ _ _ _ => (qv 0)))))))), ?_⟩
  subst e
  have h9 := O.nine
  have big : (1000 : Nat) < sizeLine := by decide
  refine ⟨_, rfl, Ep ae, fun _ => ?_, fun h => by rw [Eo O] at h; cases h⟩
  simp! only []
  refine ⟨by omega, by omega, by omega, ?_⟩
  refine f7 (fun d => match d with | .int i => eI [i, i] | d => d) (fun τ M => (∃ x, τ = [x]) ∧ M = Γ.M0) ⟨⟨_, rfl⟩, rfl⟩ (fun d hd τ M hJ R k => ?_) (fun τ M hJ => ?_)
  · obtain ⟨⟨x, rfl⟩, rfl⟩ := hJ
    obtain ⟨i, hi⟩ := List.mem_iff_getElem?.mp hd
    obtain ⟨rfl, jY⟩ := cV hi
    simp! only []
    have k := k [some (.int (i : Nat))] Γ.M0 ⟨⟨_, rfl⟩, rfl⟩
    simp only [Int.zero_add] at k
    exact ⟨by omega, k⟩
  · obtain ⟨⟨x, rfl⟩, rfl⟩ := hJ
    have e : ((cq 0 ae.length).map fun d => match d with | .int i => eI [i, i] | d => d) = (dD ae.length).map eI := by
      unfold cq dD
      rw [List.map_map, List.map_map]
      refine List.map_congr_left fun i _ => ?_
      show eI [0 + (i : Int), 0 + (i : Int)] = _
      rw [Int.zero_add]
      rfl
    rw [e]
    have du : ∀ p ∈ dD ae.length, p ∈ h8 ae.length := fun p hp => List.mem_append_right _ hp
    refine ⟨ae, n, rfl, O, ae, n, dD ae.length, rfl, O, Et _, du, fun ks HV hl => ?_⟩
    refine ⟨ae, n, rfl, O, ?_⟩
    have pl := pairs_len h9
    have ol := vP (n := n) (G := (· ∈ dD ae.length)) h9
    simp! only []
    refine ⟨by omega, gU _ (fun d hd R hR => ?_) (by rw [um HV]; exact .inl q)⟩
    obtain ⟨p, hp, rfl⟩ := List.mem_map.mp hd
    simp only [eI, eC] at hR
    simp! only [wZ, eC]
    exact hR
noncomputable def uo : cU := fun ds M Q _ => ∃ ae n, ds = [eN ae] ∧ dQ ae n ∧ ∀ a, M a = none → Q (.ptr a) (av M a (.lst ((bC ae n).map eI)))
noncomputable def uq : cU := fun ds M Q _ => ∃ ae n, ds = [eN ae] ∧ dQ ae n ∧ Q (.lst ((bC ae n).map eI)) M
noncomputable def zV : cU := fun ds M Q _ => ∃ ae n, ds = [eN ae] ∧ dQ ae n ∧ ((∀ a, M a = none → Q (.ptr a) (av M a (.lst ((bC ae n).map eI)))) ∨ Q (.lst ((bC ae n).map eI)) M)
theorem ur {S S' : cU} {cx : js} {k : Nat} {f : Addr} {fd : FuncData} {ps : List Str} (G : FnOk P w K mg base cx k f fd ps (aT P w K tb S')) (h : ∀ ds M Q E, S ds M Q E → S' ds M Q E) : FnOk P w K mg base cx k f fd ps (aT P w K tb S) :=
  G.imp fun vs H Q E ⟨β, ds, M, Q', E', e1, e2, e3, e4, m, r, hS, q, qe⟩ => ⟨β, ds, M, Q', E', e1, e2, e3, e4, m, r, h _ _ _ _ hS, q, qe⟩
theorem pF {f f2 f3 f4 f5 : Addr} {fd fd2 jJ pE zW : FuncData} (D : Df K mg "stable_pairs" dX ["net"] f fd)
    (aY : Df K mg "all_pairs" dI ["net"] f2 fd2) (cD : FnOk P w K mg base bc 1 f2 fd2 ["net"] (aT P w K tb px))
    (bo : Df K mg "coming_pairs" dW ["net"] f3 jJ) (g9 : FnOk P w K mg base bc 2 f3 jJ ["net"] (aT P w K tb qd))
    (bz : Df K mg "led_to_some" dy ["coming", "goals"] f4 pE) (iz : FnOk P w K mg base bc 1 f4 pE ["coming", "goals"] (aT P w K tb uj))
    (cZ : Df K mg "never_called" cY ["net"] f5 zW) (qg : FnOk P w K mg base (fy P w) 8 f5 zW ["net"] (aT P w K tb zNever)) (bl : Bl mg) :
    FnOk P w K mg base (fy P w) 9 f fd ["net"] (aT P w K tb uo) ∧ FnOk P w K mg base (fy P w) 9 f fd ["net"] (aT P w K tb uq) := by
  have big : (1000 : Nat) < sizeLine := by decide
  have main : FnOk P w K mg base (fy P w) 9 f fd ["net"] (aT P w K tb zV) := by
    refine wz D gF (fun ds M Q E ⟨ae, n, e, _⟩ => by rw [e]; rfl) fun A outer s E Γ ds Q' E' hP hw hK ht hE hr ⟨ae, n, e, O, q⟩ => ⟨_, (ah (aQ (i := 1) gF.nd rfl (Or.inl rfl) (aH qg (hr.mono (by decide)) rfl cZ.mg cZ.fn.kp cZ.bd Ct hP hw hK ht hE (aa (qv 0) af)))
    (ah (aQ (i := 2) gF.nd rfl (Or.inr rfl) (aH iz (hr.mono (by decide)) rfl bz.mg bz.fn.kp bz.bd aW hP hw hK ht XR.none (aa (aH g9 (hr.mono (by decide)) rfl bo.mg bo.fn.kp bo.bd aW hP hw hK ht XR.none (aa (qv 0) af)) (aa (qv 1) af))))
    (aw (aP (gA (N' := ["pair", "shaken"]) (tn := 1) (idx := [2]) rfl (show aB ["net", "never", "shaken"] (aj dX) _ ["pair", "shaken"] 1 [2] from by decide +kernel) (cX (K := K) rfl (aH cD (hr.mono (by decide)) rfl aY.mg aY.fn.kp aY.bd aW hP hw hK ht XR.none (aa (qv 0) af))) (fun _ _ _ _ _ => (aG (i := 0) (show List.Nodup [("pair" : Str), ("shaken" : Str)] from by decide +kernel) rfl (Or.inl rfl))) (fun _ _ _ _ _ => (j6 (bb (nT hr.units) (qv 0) (qv 1) (by rfl)))) (fun _ _ _ _ _ => (qv 0))))))), ?_⟩
    subst e
    have h9 := O.nine
    simp! only []
    refine ⟨ae, n, rfl, O, ae, n, rfl, O, ae, n, pC ae n, rfl, O, HU h9, fun p hp => List.mem_append_left _ (gb.mp hp).1, fun ks HV hl => ?_⟩
    refine ⟨ae, n, rfl, O, ?_⟩
    have pl := pairs_len h9
    simp! only []
    refine ⟨by omega, gU _ (fun d hd R hR => ?_) (by rw [um HV]; exact fun a ha => q.elim (fun q => .inl (q a ha)) fun q => qW (.upd ha .refl) ha updM_same (fun d hd => by obtain ⟨r, _, rfl⟩ := List.mem_map.mp hd; exact j9 r) q)⟩
    obtain ⟨p, hp, rfl⟩ := List.mem_map.mp hd
    simp only [eI, eC] at hR
    simp! only [wZ, eC]
    exact hR
  exact ⟨ur main fun ds M Q E ⟨ae, n, e, O, q⟩ => ⟨ae, n, e, O, .inl q⟩, ur main fun ds M Q E ⟨ae, n, e, O, q⟩ => ⟨ae, n, e, O, .inr q⟩⟩
end
section
variable {P : Program} {w : World} {K : PySem.W.Frag} {mg : Str → Option Value} {base : Heap} {tb : da}
theorem mD : aU ["_law_found", "_law_due"] ["_law_found", "_law_due"] (aj dJ) := ⟨rfl, rfl, rfl, by decide +kernel, rfl, by decide +kernel, by decide +kernel⟩
noncomputable def rX : Nat → Dv → Prop
  | 0, d => ∃ i, d = .int i
  | n + 1, d => ∃ xs : List Dv, (d = .lst xs ∨ d = .tup xs) ∧ xs.length ≤ 1000 ∧ ∀ x ∈ xs, rX n x
noncomputable def rY (n : Nat) : cU := fun ds M Q _ => ∃ d, ds = [d, d] ∧ rX n d ∧ Q (.bl true) M
theorem pG {xs : List Dv} {d : Dv} (h : d ∈ bP xs xs) : ∃ x ∈ xs, d = .tup [x, x] := by
  obtain ⟨i, hi⟩ := List.mem_iff_getElem?.mp h
  obtain ⟨x, y, rfl, h1, h2⟩ := iu hi
  rw [h1] at h2
  cases h2
  exact ⟨x, List.mem_of_getElem? h1, rfl⟩
theorem pH : ∀ n : Nat, boolsD (List.replicate n (Dv.bl true)) = some (List.replicate n true)
  | n => by
    have := iL (List.replicate n true)
    rwa [List.map_replicate] at this
theorem BJ {d : Dv} {t : Dt} {M : Mh} {Q : ZK} (h : bM (now M d) = some t) (hp : il t ≤ 60) (q : Q (.bl true) M) : nP false d d M Q := by
  unfold nP
  rw [h]
  refine ⟨hp, ?_⟩
  rw [ki]
  exact q
theorem zX {f : Addr} {fd : FuncData} {k : Nat} : FnOk P w K mg base bc k f fd ["_law_found", "_law_due"] (aT P w K tb fun _ _ _ _ => False) :=
  have no : ∀ {vs H Q E}, aT P w K tb (fun _ _ _ _ => False) vs H Q E → False := fun h => by obtain ⟨β, ds, M, Q', E', _, _, _, _, m, rs, s, _⟩ := h; exact s
  ⟨fun _ _ _ _ h => (no h).elim, fun _ _ _ _ _ _ _ _ _ _ _ _ _ h => (no h).elim⟩
theorem zY {f : Addr} {fd : FuncData} (D : Df K mg "_law_like" dJ ["_law_found", "_law_due"] f fd) (bl : Bl mg) : FnOk P w K mg base bc 1 f fd ["_law_found", "_law_due"] (aT P w K tb (rY 0)) := by
  have aS := D
  have eJ := zX (P := P) (w := w) (K := K) (mg := mg) (base := base) (tb := tb) (f := f) (fd := fd) (k := 0)
  refine dS D mD (fun ds M Q E hS => by obtain ⟨d, e, _⟩ := hS; rw [e]; rfl) fun A outer s E Γ ds Q' E' hP hw hK ht hr hS => ?_
  obtain ⟨d, e, h, q⟩ := hS
  refine ⟨_, (ah (bU (QW.pt (ky (dg (az (aV (K := K) rfl) rfl bl.isinstance_ aD (aa (qv 1) (aa (bg (v := .ty "list") rfl bl.list_ gP rfl) af)))) (i9 (dg (az (aV (K := K) rfl) rfl bl.isinstance_ aD (aa (qv 1) (aa (bg (v := .ty "tuple") rfl bl.tuple_ dF rfl) af)))))))
      (ah (bU (QW.pt (ky (bb tq (az (aV (K := K) rfl) rfl bl.isinstance_ aD (aa (qv 1) (aa (bg (v := .ty "list") rfl bl.list_ gP rfl) af))) (az (aV (K := K) rfl) rfl bl.isinstance_ aD (aa (qv 0) (aa (bg (v := .ty "list") rfl bl.list_ gP rfl) af))) (aZ _)) (i9 (bb tq (az (aV (K := K) rfl) rfl bl.isinstance_ aD (aa (qv 1) (aa (bg (v := .ty "tuple") rfl bl.tuple_ dF rfl) af))) (az (aV (K := K) rfl) rfl bl.isinstance_ aD (aa (qv 0) (aa (bg (v := .ty "tuple") rfl bl.tuple_ dF rfl) af))) (aZ _)))))
      (aw (aP fc))
      qss_nil)
    (aw (aP (fD (eF kG (az (eB (K := K) rfl hK) rfl bl.len_ PySem.boot_len (aa (qv 0) af)) (az (eB (K := K) rfl hK) rfl bl.len_ PySem.boot_len (aa (qv 1) af)) (aZ _)) (iq (az (tI (K := K) rfl rfl) rfl bl.all_ sO (aa (bq (N' := ["_law_one", "_law_other"]) (tn := 2) (idx := []) rfl (show aB ["_law_found", "_law_due"] (aj dJ) _ ["_law_one", "_law_other"] 2 [] from by decide +kernel) (CP (j8 true true (K := K) rfl rfl bl.zip_ (qv 0) (qv 1)) (j8 false false (K := K) rfl rfl bl.zip_ (qv 0) (qv 1))) (fun _ _ _ _ _ => (ja (n := 2) rfl (b7 (aG (i := 0) (show List.Nodup [("_law_one" : Str), ("_law_other" : Str)] from by decide +kernel) rfl (Or.inl rfl)) (b7 (aG (i := 1) (show List.Nodup [("_law_one" : Str), ("_law_other" : Str)] from by decide +kernel) rfl (Or.inl rfl)) gQ)))) (fun _ _ _ _ _ => bB) (fun _ _ _ _ _ => (aH eJ hr rfl aS.mg aS.fn.kp aS.bd aW hP hw hK ht XR.none (aa (qv 0) (aa (qv 1) af))))) af)))))))
      qss_nil)
    (ah (bU (dg (az (aV (K := K) rfl) rfl bl.isinstance_ aD (aa (qv 1) (aa (bg (v := .ty "str") rfl bl.str_ oG rfl) af))))
      (aw (aP (fD (az (aV (K := K) rfl) rfl bl.isinstance_ aD (aa (qv 0) (aa (bg (v := .ty "str") rfl bl.str_ oG rfl) af))) (iq (eF (oP hr.units) (qv 0) (qv 1) (aZ _))))))
      qss_nil)
    (ah (bU (bb rR (qv 1) oJ (aZ _))
      (aw (aP (eF rR (qv 0) oJ (aZ _))))
      qss_nil)
    (aw (aP (fD (az (aV (K := K) rfl) rfl bl.isinstance_ aD (aa (qv 0) (aa (bg (v := .ty "int") rfl bl.int_ sJ rfl) af))) (fD (sX (az (aV (K := K) rfl) rfl bl.isinstance_ aD (aa (qv 0) (aa (bg (v := .ty "bool") rfl bl.bool_ pO rfl) af)))) (iq (eF (oP hr.units) (qv 0) (qv 1) (aZ _)))))))))), ?_⟩
  subst e
  obtain ⟨i, rfl⟩ := h
  simp! only []
  exact ⟨by decide, by decide, by decide, by decide, by decide, BJ rfl (Nat.le_of_ble_eq_true rfl) (.inl q)⟩
theorem rA {f : Addr} {fd : FuncData} {n k : Nat} (D : Df K mg "_law_like" dJ ["_law_found", "_law_due"] f fd) (eJ : FnOk P w K mg base bc k f fd ["_law_found", "_law_due"] (aT P w K tb (rY n))) (bl : Bl mg) : FnOk P w K mg base bc (k + 1) f fd ["_law_found", "_law_due"] (aT P w K tb (rY (n + 1))) := by
  have aS := D
  refine dS D mD (fun ds M Q E hS => by obtain ⟨d, e, _⟩ := hS; rw [e]; rfl) fun A outer s E Γ ds Q' E' hP hw hK ht hr hS => ?_
  obtain ⟨d, e, h, q⟩ := hS
  refine ⟨_, (ah (bU (QW.pt (ky (dg (az (aV (K := K) rfl) rfl bl.isinstance_ aD (aa (qv 1) (aa (bg (v := .ty "list") rfl bl.list_ gP rfl) af)))) (i9 (dg (az (aV (K := K) rfl) rfl bl.isinstance_ aD (aa (qv 1) (aa (bg (v := .ty "tuple") rfl bl.tuple_ dF rfl) af)))))))
      (ah (bU (QW.pt (ky (bb tq (az (aV (K := K) rfl) rfl bl.isinstance_ aD (aa (qv 1) (aa (bg (v := .ty "list") rfl bl.list_ gP rfl) af))) (az (aV (K := K) rfl) rfl bl.isinstance_ aD (aa (qv 0) (aa (bg (v := .ty "list") rfl bl.list_ gP rfl) af))) (aZ _)) (i9 (bb tq (az (aV (K := K) rfl) rfl bl.isinstance_ aD (aa (qv 1) (aa (bg (v := .ty "tuple") rfl bl.tuple_ dF rfl) af))) (az (aV (K := K) rfl) rfl bl.isinstance_ aD (aa (qv 0) (aa (bg (v := .ty "tuple") rfl bl.tuple_ dF rfl) af))) (aZ _)))))
      (aw (aP fc))
      qss_nil)
    (aw (aP (fD (eF kG (az (eB (K := K) rfl hK) rfl bl.len_ PySem.boot_len (aa (qv 0) af)) (az (eB (K := K) rfl hK) rfl bl.len_ PySem.boot_len (aa (qv 1) af)) (aZ _)) (iq (az (tI (K := K) rfl rfl) rfl bl.all_ sO (aa (bq (N' := ["_law_one", "_law_other"]) (tn := 2) (idx := []) rfl (show aB ["_law_found", "_law_due"] (aj dJ) _ ["_law_one", "_law_other"] 2 [] from by decide +kernel) (CP (j8 true true (K := K) rfl rfl bl.zip_ (qv 0) (qv 1)) (j8 false false (K := K) rfl rfl bl.zip_ (qv 0) (qv 1))) (fun _ _ _ _ _ => (ja (n := 2) rfl (b7 (aG (i := 0) (show List.Nodup [("_law_one" : Str), ("_law_other" : Str)] from by decide +kernel) rfl (Or.inl rfl)) (b7 (aG (i := 1) (show List.Nodup [("_law_one" : Str), ("_law_other" : Str)] from by decide +kernel) rfl (Or.inl rfl)) gQ)))) (fun _ _ _ _ _ => bB) (fun _ _ _ _ _ => (aH eJ hr rfl aS.mg aS.fn.kp aS.bd aW hP hw hK ht XR.none (aa (qv 0) (aa (qv 1) af))))) af)))))))
      qss_nil)
    (ah (bU (dg (az (aV (K := K) rfl) rfl bl.isinstance_ aD (aa (qv 1) (aa (bg (v := .ty "str") rfl bl.str_ oG rfl) af))))
      (aw (aP (fD (az (aV (K := K) rfl) rfl bl.isinstance_ aD (aa (qv 0) (aa (bg (v := .ty "str") rfl bl.str_ oG rfl) af))) (iq (eF (oP hr.units) (qv 0) (qv 1) (aZ _))))))
      qss_nil)
    (ah (bU (bb rR (qv 1) oJ (aZ _))
      (aw (aP (eF rR (qv 0) oJ (aZ _))))
      qss_nil)
    (aw (aP (fD (az (aV (K := K) rfl) rfl bl.isinstance_ aD (aa (qv 0) (aa (bg (v := .ty "int") rfl bl.int_ sJ rfl) af))) (fD (sX (az (aV (K := K) rfl) rfl bl.isinstance_ aD (aa (qv 0) (aa (bg (v := .ty "bool") rfl bl.bool_ pO rfl) af)))) (iq (eF (oP hr.units) (qv 0) (qv 1) (aZ _)))))))))), ?_⟩
  subst e
  obtain ⟨xs, hd, hl, hx⟩ := h
  have big : (1000 : Nat) < sizeLine := by decide
  rcases hd with rfl | rfl
  · simp! only []
    refine ⟨by decide, by decide, by decide, by decide, by decide, .inl ?_⟩
    simp! only []
    refine ⟨by omega, f7 (fun _ => .bl true) (fun τ M => (∃ x y, τ = [x, y]) ∧ M = Γ.M0) ⟨⟨_, _, rfl⟩, rfl⟩ (fun d hd τ M hI R hR => ?_) (fun τ M hI => ?_)⟩
    · obtain ⟨⟨x, y, rfl⟩, rfl⟩ := hI
      obtain ⟨z, hz, rfl⟩ := pG hd
      simp! only []
      exact ⟨z, rfl, hx z hz, hR _ _ ⟨⟨_, _, rfl⟩, rfl⟩⟩
    · obtain ⟨⟨x, y, rfl⟩, rfl⟩ := hI
      rw [List.map_const', pH]
      have : (List.replicate (bP xs xs).length true).all id = true := by simp
      show jS Γ.M0 Q' (.bl ((List.replicate (bP xs xs).length true).all id)) Γ.M0
      rw [this]
      exact .inl q
  · simp! only []
    refine ⟨by decide, by decide, by decide, by decide, by decide, by decide, .inr ?_⟩
    simp! only []
    refine ⟨by omega, f7 (fun _ => .bl true) (fun τ M => (∃ x y, τ = [x, y]) ∧ M = Γ.M0) ⟨⟨_, _, rfl⟩, rfl⟩ (fun d hd τ M hI R hR => ?_) (fun τ M hI => ?_)⟩
    · obtain ⟨⟨x, y, rfl⟩, rfl⟩ := hI
      obtain ⟨z, hz, rfl⟩ := pG hd
      simp! only []
      exact ⟨z, rfl, hx z hz, hR _ _ ⟨⟨_, _, rfl⟩, rfl⟩⟩
    · obtain ⟨⟨x, y, rfl⟩, rfl⟩ := hI
      rw [List.map_const', pH]
      have : (List.replicate (bP xs xs).length true).all id = true := by simp
      show jS Γ.M0 Q' (.bl ((List.replicate (bP xs xs).length true).all id)) Γ.M0
      rw [this]
      exact .inl q
end
section
variable {P : Program} {w : World} {K : PySem.W.Frag} {mg : Str → Option Value} {base : Heap} {tb : da}
theorem iA : aU ["_law_many", "_law_found", "_law_other"] ["_law_many"] (aj e8) := ⟨rfl, rfl, rfl, by decide +kernel, rfl, by decide +kernel, by decide +kernel⟩
theorem rH : aU ["_law_net_here", "_law_pair"] ["_law_net_here", "_law_pair"] (aj dY) := ⟨rfl, rfl, rfl, by decide +kernel, rfl, by decide +kernel, by decide +kernel⟩
theorem fG : aU ["_law_net_here", "_law_pair", "_law_found", "_law_at", "_law_there"] ["_law_net_here", "_law_pair"] (aj gC) := ⟨rfl, rfl, rfl, by decide +kernel, rfl, by decide +kernel, by decide +kernel⟩
theorem iG : aU ["_law_net_here", "_law_pair", "_law_here"] ["_law_net_here", "_law_pair"] (aj di) := ⟨rfl, rfl, rfl, by decide +kernel, rfl, by decide +kernel, by decide +kernel⟩
theorem hU : aU ["_law_net_here", "_law_pairs_here", "_law_callable_ones"] ["_law_net_here"] (aj dz) := ⟨rfl, rfl, rfl, by decide +kernel, rfl, by decide +kernel, by decide +kernel⟩
noncomputable def jo (m : Nat) : List (List Int) := (List.range m).flatMap fun j => (List.range j).map fun i : Nat => [(i : Int), (j : Int)]
theorem w5 {m : Nat} (h : m ≤ 9) : jF (jo m) = aF m ∧ (jo m).length ≤ 36 := by
  refine ⟨(tS ?_ ?_).symm, ?_⟩
  all_goals
    have : m = 0 ∨ m = 1 ∨ m = 2 ∨ m = 3 ∨ m = 4 ∨ m = 5 ∨ m = 6 ∨ m = 7 ∨ m = 8 ∨ m = 9 := by omega
    rcases this with rfl | rfl | rfl | rfl | rfl | rfl | rfl | rfl | rfl | rfl <;> decide +kernel
noncomputable def vQ : cU := fun ds M Q _ => ∃ m : Nat, ds = [.int (m : Nat)] ∧ m ≤ 9 ∧ Q (.lst ((aF m).map eI)) M
theorem uv {f : Addr} {fd : FuncData} (D : Df K mg "_law_pairs" e8 ["_law_many"] f fd) (bl : Bl mg) : FnOk P w K mg base bc 1 f fd ["_law_many"] (aT P w K tb vQ) := by
  refine dS D iA (fun ds M Q E hS => by obtain ⟨m, e, _⟩ := hS; rw [e]; rfl) fun A outer s E Γ ds Q' E' hP hw hK ht hr hS => ?_
  obtain ⟨m, e, h9, q⟩ := hS
  refine ⟨_, (ah (aQ (i := 1) iA.nd rfl (Or.inl rfl) (mK af))
    (ah (gz PassesOwn.never rfl (bY rfl bl.range_ (aa (qv 0) af)) (fun pj eP ew eK et => by have hP := hP.trans eP.symm; have hw := hw.trans ew.symm; have hK := hK.trans eK.symm; have ht := ht.trans et.symm; exact ⟨(aG (i := 2) iA.nd rfl (Or.inr rfl)), (aw (iR (mO (K := K) rfl PySem.F.plainAttrs_list PySem.F.slot_list_extend PySem.F.type_list_extend Bd (qv 1) (aa (bq (N' := ["_law_one", "_law_other"]) (tn := 1) (idx := [2]) rfl (show aB ["_law_many", "_law_found", "_law_other"] (aj e8) _ ["_law_one", "_law_other"] 1 [2] from by decide +kernel) (bY rfl bl.range_ (aa (qv 2) af)) (fun _ _ _ _ _ => (aG (i := 0) (show List.Nodup [("_law_one" : Str), ("_law_other" : Str)] from by decide +kernel) rfl (Or.inl rfl))) (fun _ _ _ _ _ => bB) (fun _ _ _ _ _ => (ir (aa (qv 0) (aa (qv 1) af))))) af))))⟩))
    (aw (aP (az (Eh (K := K) rfl) rfl bl.sorted_ yo (aa (qv 1) af)))))), ?_⟩
  subst e
  have big : (1000 : Nat) < sizeLine := by decide
  obtain ⟨hs, hlen⟩ := w5 h9
  simp! only []
  refine ⟨by omega, fun a ha => ⟨by omega, by omega, ?_⟩⟩
  refine dC (fun j ρ M => (∃ x, ρ = [some (.int (m : Nat)), some (.ptr a), x]) ∧ M = av Γ.M0 a (.lst (((List.range j).flatMap fun j => (List.range j).map fun i : Nat => [(i : Int), (j : Int)]).map eI)) ∧ j ≤ m) ⟨⟨_, rfl⟩, rfl, Nat.zero_le _⟩ (fun j d ρ M N hd hJ hN => ?_) (fun ρ M hJ => ?_)
  · obtain ⟨⟨x, rfl⟩, rfl, hj⟩ := hJ
    obtain ⟨rfl, HW⟩ := cV hd
    simp! only []
    have O9 : j < m := by omega
    refine ⟨by omega, by omega, by omega, f7 (fun d => match d with | .int i => eI [i, (j : Int)] | d => d) (fun τ M' => (∃ x, τ = [x, some (.int (j : Nat))]) ∧ M' = av Γ.M0 a (.lst (((List.range j).flatMap fun j => (List.range j).map fun i : Nat => [(i : Int), (j : Int)]).map eI))) ⟨⟨_, rfl⟩, rfl⟩ (fun d hd τ M' hI R hR => ?_) (fun τ M' hI => ?_)⟩
    · obtain ⟨⟨x, rfl⟩, rfl⟩ := hI
      obtain ⟨i, hi⟩ := List.mem_iff_getElem?.mp hd
      obtain ⟨rfl, jY⟩ := cV hi
      have k := hR [some (.int (0 + (i : Nat))), some (.int (j : Nat))] _ ⟨⟨_, rfl⟩, rfl⟩
      simp! only []
      simp only [Int.zero_add] at k ⊢
      exact ⟨by omega, k⟩
    · obtain ⟨⟨x, rfl⟩, rfl⟩ := hI
      have e : ((cq 0 j).map fun d => match d with | .int i => eI [i, (j : Int)] | d => d) = ((List.range j).map fun i : Nat => [(i : Int), (j : Int)]).map eI := by
        unfold cq
        rw [List.map_map, List.map_map]
        refine List.map_congr_left fun i _ => ?_
        show eI [0 + (i : Int), (j : Int)] = _
        rw [Int.zero_add]
        rfl
      rw [e]
      simp only [updM_same]
      have pre : ((List.range (j + 1)).flatMap fun j => (List.range j).map fun i : Nat => [(i : Int), (j : Int)]) <+: jo m := by
        unfold jo
        have ht : List.range m = List.range (j + 1) ++ (List.range (m - (j + 1))).map (fun x => j + 1 + x) := by
          rw [← List.range_add]; congr 1; omega
        rw [ht, List.flatMap_append]
        exact List.prefix_append _ _
      have es : ((List.range (j + 1)).flatMap fun j => (List.range j).map fun i : Nat => [(i : Int), (j : Int)]) = ((List.range j).flatMap fun j => (List.range j).map fun i : Nat => [(i : Int), (j : Int)]) ++ (List.range j).map fun i : Nat => [(i : Int), (j : Int)] := by
        rw [List.range_succ, List.flatMap_append]
        simp
      have hl := pre.length_le
      rw [es, List.length_append] at hl
      refine ⟨(fun t h => nomatch h), by rw [List.length_map, List.length_map]; omega, hN _ _ ⟨⟨_, rfl⟩, ?_, by omega⟩⟩
      rw [updM_updM, es, List.map_append]
  · obtain ⟨⟨x, rfl⟩, rfl, hj⟩ := hJ
    rw [rangeD_len]
    simp! only []
    show (match (some ((jo m).map eI)).bind jG with | some rs => _ | none => False)
    rw [Option.bind_some, rj]
    refine ⟨by show (jo m).length < 64; omega, fun r hr => ?_, ?_⟩
    · obtain ⟨j, _, hr⟩ := List.mem_flatMap.mp hr
      obtain ⟨i, _, rfl⟩ := List.mem_map.mp hr
      exact fun h => nomatch h
    · refine md (.upd ha .refl) (.lst fun d hd => ?_) ?_
      · obtain ⟨r, _, rfl⟩ := List.mem_map.mp hd
        exact j9 r
      · show Q' (.lst ((jF (jo m)).map eI)) _
        rw [hs]
        exact q
end
section
variable {P : Program} {w : World} {K : PySem.W.Frag} {mg : Str → Option Value} {base : Heap} {tb : da}
noncomputable def qh : cU := fun ds M Q _ => ∃ ae n p, ds = [eN ae, eI p] ∧ dQ ae n ∧ p ∈ aF ae.length ∧ Q (.lst (((List.range n).map (dP ae p)).map eI)) M
theorem HX (x y : Int) : jK x y = [min x y, max x y] := by
  unfold jK
  by_cases h : x < y
  · rw [if_pos h, show min x y = x by omega, show max x y = y by omega]
  · rw [if_neg h, show min x y = y by omega, show max x y = x by omega]
theorem uw {f : Addr} {fd : FuncData} (D : Df K mg "_law_goals" dY ["_law_net_here", "_law_pair"] f fd) (bl : Bl mg) : FnOk P w K mg base bc 1 f fd ["_law_net_here", "_law_pair"] (aT P w K tb qh) := by
  refine dS D rH (fun ds M Q E hS => by obtain ⟨ae, n, p, e, _⟩ := hS; rw [e]; rfl) fun A outer s E Γ ds Q' E' hP hw hK ht hr hS => ?_
  obtain ⟨ae, n, p, e, O, hp, q⟩ := hS
  refine ⟨_, (aw (aP (bq (N' := ["_law_one", "_law_other"]) (tn := 2) (idx := []) rfl (show aB ["_law_net_here", "_law_pair"] (aj dY) _ ["_law_one", "_law_other"] 2 [] from by decide +kernel) (j8 false false (K := K) rfl rfl bl.zip_ (b0 (dq (K := K) rfl) (qv 0) (b0 (dq (K := K) rfl) (qv 1) aC (fun _ _ => rfl)) (fun _ _ => rfl)) (b0 (dq (K := K) rfl) (qv 0) (b0 (dq (K := K) rfl) (qv 1) aC (fun _ _ => rfl)) (fun _ _ => rfl))) (fun _ _ _ _ _ => (ja (n := 2) rfl (b7 (aG (i := 0) (show List.Nodup [("_law_one" : Str), ("_law_other" : Str)] from by decide +kernel) rfl (Or.inl rfl)) (b7 (aG (i := 1) (show List.Nodup [("_law_one" : Str), ("_law_other" : Str)] from by decide +kernel) rfl (Or.inl rfl)) gQ)))) (fun _ _ _ _ _ => bB) (fun _ _ _ _ _ => (ir (aa (az (tu rfl) rfl bl.min_ sL (aa (qv 0) (aa (qv 1) af))) (aa (az (yU rfl) rfl bl.max_ yj (aa (qv 0) (aa (qv 1) af))) af))))))), ?_⟩
  subst e
  have h9 := O.nine
  have C8 := O.wid
  have big : (1000 : Nat) < sizeLine := by decide
  obtain ⟨a, b, dj, hb, rfl⟩ := bZ.mp hp
  obtain ⟨ea, la⟩ := mW O (show a < ae.length by omega)
  obtain ⟨eb, lb⟩ := mW O hb
  have i1 : c6 [Dv.int (a : Nat), Dv.int (b : Nat)] 1 = some (.int (b : Nat)) := rfl
  simp! only [i1, ea, eb]
  have el : (bP (List.map Dv.int (ae.getD a [])) (List.map Dv.int (ae.getD b []))).length = n := by rw [pairsD_len, List.length_map, List.length_map, la, lb, Nat.min_self]
  refine ⟨by omega, ?_⟩
  refine f7 (fun d => match d with | .tup [.int x, .int y] => eI (jK x y) | d => d) (fun τ M => (∃ x y, τ = [x, y]) ∧ M = Γ.M0) ⟨⟨_, _, rfl⟩, rfl⟩ (fun d hd τ M hJ R k => ?_) (fun τ M hJ => ?_)
  · obtain ⟨⟨x, y, rfl⟩, rfl⟩ := hJ
    obtain ⟨j, hj⟩ := List.mem_iff_getElem?.mp hd
    obtain ⟨x, y, rfl, hx, hy⟩ := iu hj
    rw [List.getElem?_map] at hx hy
    obtain ⟨gx, jH, rfl⟩ := Option.map_eq_some_iff.mp hx
    obtain ⟨gy, K7, rfl⟩ := Option.map_eq_some_iff.mp hy
    simp! only []
    have k := k [some (.int gx), some (.int gy)] Γ.M0 ⟨⟨_, _, rfl⟩, rfl⟩
    have m1 : min gx gy = if gy < gx then gy else gx := by split <;> omega
    have m2 : max gx gy = if gy > gx then gy else gx := by split <;> omega
    simp only [HX, m1, m2] at k
    exact ⟨by decide, k⟩
  · obtain ⟨⟨x, y, rfl⟩, rfl⟩ := hJ
    refine .inl ?_
    have e : ((bP (List.map Dv.int (ae.getD a [])) (List.map Dv.int (ae.getD b []))).map fun d => match d with | .tup [.int x, .int y] => eI (jK x y) | d => d) = ((List.range n).map (dP ae [(a : Int), (b : Int)])).map eI := by
      refine List.ext_getElem (by rw [List.length_map, el]; simp) fun j h1 h2 => ?_
      simp only [List.length_map, List.length_range] at h2
      have hj : j < (ae.getD a []).length := by omega
      have HW : j < (ae.getD b []).length := by omega
      simp only [List.getElem_map, List.getElem_range]
      obtain ⟨x, y, e, hx, hy⟩ := iu (List.getElem?_eq_getElem (show j < (bP (List.map Dv.int (ae.getD a [])) (List.map Dv.int (ae.getD b []))).length by omega))
      rw [e]
      rw [List.getElem?_map, List.getElem?_eq_getElem hj] at hx
      rw [List.getElem?_map, List.getElem?_eq_getElem HW] at hy
      cases hx; cases hy
      unfold dP
      simp only [List.getD_cons_zero, List.getD_cons_succ, Int.toNat_natCast]
      rw [List.getD_eq_getElem?_getD (l := ae.getD a []), List.getElem?_eq_getElem hj, List.getD_eq_getElem?_getD (l := ae.getD b []), List.getElem?_eq_getElem HW]
      rfl
    rw [e]
    exact q
inductive ix (ae : List (List Int)) (n : Nat) (p : List Int) : List Int → Prop where
  | base : ix ae n p p
  | step {q : List Int} {k : Nat} (h : ix ae n p q) (hk : k < n) (hp : dP ae q k ∈ aF ae.length) : ix ae n p (dP ae q k)
theorem ix.mem {ae : List (List Int)} {n : Nat} {p q : List Int} (hp : p ∈ aF ae.length) (h : ix ae n p q) : q ∈ aF ae.length := by
  cases h with
  | base => exact hp
  | step _ _ h => exact h
theorem ix.trans {ae : List (List Int)} {n : Nat} {p q r : List Int} (h : ix ae n p q) (h2 : ix ae n q r) : ix ae n p r := by
  induction h2 with
  | base => exact h
  | step _ hk hp ih => exact .step ih hk hp
theorem mX {ae : List (List Int)} {n : Nat} {G : List Int → Prop} {p : List Int} (hp : p ∈ aF ae.length) : dE ae n G p ↔ ∃ q, ix ae n p q ∧ (G q ∨ ∃ k, k < n ∧ G (dP ae q k)) := by
  constructor
  · intro h
    induction h with
    | base h => exact ⟨_, .base, .inl h⟩
    | @step p k hp hk h ih =>
      by_cases hq : dP ae p k ∈ aF ae.length
      · obtain ⟨q, h1, h2⟩ := ih hq
        exact ⟨q, (ix.step .base hk hq).trans h1, h2⟩
      · cases h with
        | base h => exact ⟨p, .base, .inr ⟨k, hk, h⟩⟩
        | step h _ _ => exact absurd h hq
  · rintro ⟨q, h1, h2⟩
    have hq : dE ae n G q := by
      rcases h2 with h | ⟨k, hk, h⟩
      · exact .base h
      · exact .step (h1.mem hp) hk (.base h)
    clear h2
    induction h1 with
    | base => exact hq
    | step h hk _ ih => exact ih (.step (h.mem hp) hk hq)
theorem vR (ks : List (List Int)) : fJ (ks.map eI) = some (ks.map fun k => Dt.tup (k.map Dt.int)) := vB wB ks
theorem qi (x : List Int) : ∀ ks : List (List Int), ((ks.map fun k => Dt.tup (k.map Dt.int)).any fun t => cy t (.tup (x.map Dt.int))) = decide (x ∈ ks)
  | [] => rfl
  | k :: ks => by
    rw [List.map_cons, List.any_cons, qi x ks]
    have : cy (.tup (k.map Dt.int)) (.tup (x.map Dt.int)) = decide (k = x) := by rw [cy, oQ]
    rw [this]
    by_cases e : k = x
    · subst e; simp
    · have e' : ¬ x = k := fun z => e z.symm
      simp [e, e']
theorem Eu {neg : Bool} {M : Mh} {c : Addr} {ks : List (List Int)} {g : List Int} {Q : ZK} (hc : M c = some (.lst (ks.map eI))) (q : Q (.bl (if neg then !decide (g ∈ ks) else decide (g ∈ ks))) M) : mj neg (eI g) (.ptr c) M Q := by
  unfold mj
  have e1 : now M (eI g) = eI g := rfl
  have e2 : now M (.ptr c) = .lst (ks.map eI) := by simp only [now, hc]
  rw [e1, e2, wB]
  simp only [vR, qi]
  refine ⟨fun t ht => ?_, q⟩
  obtain ⟨k, _, rfl⟩ := List.mem_map.mp ht
  rw [il]
  have := vC k
  omega
noncomputable def w6 : cU := fun ds M Q _ => ∃ (ae : List (List Int)) (n : Nat) (p : List Int), ds = [eN ae, eI p] ∧ dQ ae n ∧ p ∈ aF ae.length ∧ ∀ L : List (List Int), (∀ q, q ∈ L ↔ ix ae n p q) → L.length ≤ 36 → Q (.lst (L.map eI)) M
theorem qj {ae : List (List Int)} {n : Nat} (O : dQ ae n) {p : List Int} (hp : p ∈ aF ae.length) {k : Nat} (hk : k < n) : dP ae p k ∈ h8 ae.length := by
  obtain ⟨a, b, dj, hb, rfl⟩ := bZ.mp hp
  unfold dP
  simp only [List.getD_cons_zero, List.getD_cons_succ, Int.toNat_natCast]
  have at_ : ∀ c : Nat, c < ae.length → 0 ≤ (ae.getD c []).getD k 0 ∧ (ae.getD c []).getD k 0 < ae.length := fun c hc => by
    have e : ae.getD c [] = ae[c] := by rw [List.getD_eq_getElem?_getD, List.getElem?_eq_getElem hc]; rfl
    obtain ⟨h1, h2⟩ := O.row _ (List.getElem_mem hc)
    rw [e, List.getD_eq_getElem?_getD, List.getElem?_eq_getElem (by omega)]
    exact h2 _ (List.getElem_mem _)
  exact BH (at_ a (by omega)) (at_ b hb)
theorem w9 {f f1 : Addr} {fd cW : FuncData} (D : Df K mg "_law_led" gC ["_law_net_here", "_law_pair"] f fd)
    (bJ : Df K mg "_law_goals" dY ["_law_net_here", "_law_pair"] f1 cW) (jq : FnOk P w K mg base bc 1 f1 cW ["_law_net_here", "_law_pair"] (aT P w K tb qh)) (bl : Bl mg) : FnOk P w K mg base bc 2 f fd ["_law_net_here", "_law_pair"] (aT P w K tb w6) := by
  refine dS D fG (fun ds M Q E hS => by obtain ⟨ae, n, p, e, _⟩ := hS; rw [e]; rfl) fun A outer s E Γ ds Q' E' hP hw hK ht hr hS => ?_
  obtain ⟨ae, n, p, e, O, hp, q⟩ := hS
  refine ⟨_, (ah (aQ (i := 2) fG.nd rfl (Or.inl rfl) (mK (aa (qv 1) af)))
    (ah (aQ (i := 3) fG.nd rfl (Or.inl rfl) aC)
    (ah (nO PassesOwn.never (bb kD (qv 3) (az (eB (K := K) rfl hK) rfl bl.len_ PySem.boot_len (aa (qv 2) af)) (aZ _))
      (ah (gz PassesOwn.never rfl (cX (K := K) rfl (aH jq (hr.mono (by decide)) rfl bJ.mg bJ.fn.kp bJ.bd aW hP hw hK ht XR.none (aa (qv 0) (aa (b0 (dq (K := K) rfl) (qv 2) (qv 3) (fun _ _ => rfl)) af)))) (fun pj eP ew eK et => by have hP := hP.trans eP.symm; have hw := hw.trans ew.symm; have hK := hK.trans eK.symm; have ht := ht.trans et.symm; exact ⟨(aG (i := 4) fG.nd rfl (Or.inl rfl)), (aw (bU (QW.pt (yK (bb kD (b0 (dq (K := K) rfl) (qv 4) aC (fun _ _ => rfl)) (b0 (dq (K := K) rfl) (qv 4) aC (fun _ _ => rfl)) (aZ _)) (vq (bb (Bk hr.units) (qv 4) (qv 2) (by rfl)))))
      (aw (iR (mO (K := K) rfl PySem.F.plainAttrs_list PySem.F.slot_list_append PySem.F.type_list_append nR (qv 2) (aa (qv 4) af))))
      qss_nil))⟩))
    (aw (aQ (i := 3) fG.nd rfl (Or.inl rfl) (bp fI (qv 3) aC)))))
    (aw (aP (qv 2)))))), ?_⟩
  subst e
  have h9 := O.nine
  have C8 := O.wid
  have big : (1000 : Nat) < sizeLine := by decide
  have HY : ∀ L : List (List Int), L.Nodup → (∀ x ∈ L, ix ae n p x) → L.length ≤ 36 := fun L h1 h2 => Nat.le_trans (fK _ _ h1 fun x hx => (h2 x hx).mem hp) (pairs_len h9)
  simp! only []
  refine ⟨by omega, fun a ha => ?_⟩
  refine ⟨fun m ρ M => ∃ (L : List (List Int)) (i : Nat), m = 36 - i ∧ (∃ x, ρ = [some (eN ae), some (eI p), some (.ptr a), some (.int (i : Nat)), x]) ∧ M = av Γ.M0 a (.lst (L.map eI)) ∧ L.Nodup ∧ p ∈ L ∧ i ≤ L.length ∧ (∀ x ∈ L, ix ae n p x) ∧ ∀ j x, L[j]? = some x → j < i → ∀ k, k < n → dP ae x k ∈ aF ae.length → dP ae x k ∈ L,
    ⟨_, [p], 0, rfl, ⟨_, rfl⟩, rfl, by simp, by simp, Nat.zero_le _, fun x hx => by rw [List.mem_singleton.mp hx]; exact .base, fun j x _ h => absurd h (Nat.not_lt_zero _)⟩, ?_⟩
  rintro m ρ M ⟨L, i, rfl, ⟨x, rfl⟩, rfl, nd, Lc, hi, rB, d9⟩
  have Ox := HY L nd rB
  simp! only [List.length_map]
  refine eS (fun h1 => ?_) (fun h1 => ?_)
  · have bu : i < L.length := by have := of_decide_eq_true h1; omega
    have eg : c6 (L.map eI) (i : Int) = some (eI L[i]) := eE (by rw [List.getElem?_map, List.getElem?_eq_getElem bu]; rfl)
    have hg : L[i] ∈ L := List.getElem_mem bu
    have HZ := (rB _ hg).mem hp
    obtain ⟨g, Ld⟩ : ∃ g, g = L[i] := ⟨_, rfl⟩
    rw [← Ld] at eg hg HZ
    simp only [eg]
    refine ⟨ae, n, g, rfl, O, HZ, ?_⟩
    refine dC (fun k ρ M => ∃ L2 : List (List Int), (∃ x, ρ = [some (eN ae), some (eI p), some (.ptr a), some (.int (i : Nat)), x]) ∧ M = av Γ.M0 a (.lst (L2.map eI)) ∧ L2.Nodup ∧ L <+: L2 ∧ (∀ x ∈ L2, ix ae n p x) ∧ ∀ k', k' < k → dP ae g k' ∈ aF ae.length → dP ae g k' ∈ L2) ⟨L, ⟨_, rfl⟩, rfl, nd, List.prefix_rfl, rB, fun k h => absurd h (Nat.not_lt_zero _)⟩ (fun k d ρ M N hd hJ hN => ?_) (fun ρ M hJ => ?_)
    · obtain ⟨L2, ⟨x, rfl⟩, rfl, pB, pre, vT, zu⟩ := hJ
      obtain ⟨r, hr, rfl⟩ := jc hd
      rw [List.getElem?_map] at hr
      obtain ⟨k', ny, rfl⟩ := Option.map_eq_some_iff.mp hr
      have Ia : k < n := by have := (List.getElem?_eq_some_iff.mp ny).1; simpa using this
      rw [List.getElem?_range Ia] at ny
      cases ny
      obtain ⟨u, v, Le, hv, er⟩ := kY.mp (qj O HZ Ia)
      have Ib : dP ae g k ∈ aF ae.length → ix ae n p (dP ae g k) := fun h => .step (rB _ hg) Ia h
      have OH := HY L2 pB vT
      have fin : ∀ L3 : List (List Int), L2 <+: L3 → (dP ae g k ∈ aF ae.length → dP ae g k ∈ L3) → ∀ k', k' < k + 1 → dP ae g k' ∈ aF ae.length → dP ae g k' ∈ L3 := fun L3 h h2 k' ny hm => by
        by_cases e : k' = k
        · subst e; exact h2 hm
        · exact h.subset (zu k' (by omega) hm)
      obtain ⟨r, HI⟩ : ∃ r, r = dP ae g k := ⟨_, rfl⟩
      rw [← HI] at er Ib fin ⊢
      have Lf : r ∈ aF ae.length ↔ u < v := by
        rw [bZ, er]
        constructor
        · rintro ⟨a, b, h1, h2, e⟩
          have e1 := (List.cons.inj e).1
          have e2 := (List.cons.inj (List.cons.inj e).2).1
          omega
        · exact fun h => ⟨u, v, h, hv, rfl⟩
      subst er
      have i1 : c6 [Dv.int (u : Nat), Dv.int (v : Nat)] 1 = some (.int (v : Nat)) := rfl
      simp! only [i1]
      refine eS (fun h => ?_) (fun h => ?_)
      · have BK : u < v := by have := of_decide_eq_true h; omega
        have hm := Lf.mpr BK
        refine Eu (g := [(u : Int), (v : Int)]) updM_same ?_
        simp! only []
        by_cases ka : [(u : Int), (v : Int)] ∈ L2
        · rw [decide_eq_true ka, if_neg (by decide)]
          exact hN _ _ ⟨L2, ⟨_, rfl⟩, rfl, pB, pre, vT, fin L2 List.prefix_rfl fun _ => ka⟩
        · rw [decide_eq_false ka, if_pos (by decide)]
          refine ⟨by omega, hN _ _ ⟨L2 ++ [[(u : Int), (v : Int)]], ⟨_, rfl⟩, by rw [List.map_append]; rfl, ?_, pre.trans (List.prefix_append _ _), fun x hx => ?_, fin _ (List.prefix_append _ _) fun _ => by simp⟩⟩
          · rw [List.nodup_append]
            exact ⟨pB, by simp, fun x hx y hy e => ka (by rw [List.mem_singleton.mp hy] at e; rw [← e]; exact hx)⟩
          · rcases List.mem_append.mp hx with z | z
            · exact vT x z
            · rw [List.mem_singleton.mp z]; exact Ib hm
      · have BK : ¬ u < v := by have := of_decide_eq_false h; omega
        exact hN _ _ ⟨L2, ⟨_, rfl⟩, rfl, pB, pre, vT, fin L2 List.prefix_rfl fun h => absurd (Lf.mp h) BK⟩
    · obtain ⟨L2, ⟨x, rfl⟩, rfl, pB, pre, vT, zu⟩ := hJ
      rw [List.length_map, List.length_map, List.length_range] at zu
      simp! only []
      have fV := pre.length_le
      refine ⟨36 - (i + 1), by omega, L2, i + 1, rfl, ⟨_, rfl⟩, rfl, pB, pre.subset Lc, by omega, vT, fun j y hj Oy k hk hm => ?_⟩
      obtain ⟨t, ht⟩ := pre
      have zR : L[j]? = some y := by
        rw [← ht, List.getElem?_append_left (by omega)] at hj
        exact hj
      by_cases e : j = i
      · subst e
        rw [List.getElem?_eq_getElem bu] at zR
        cases zR
        rw [← Ld] at hm ⊢
        exact zu k hk hm
      · rw [← ht]
        exact List.mem_append_left _ (d9 j y zR (by omega) k hk hm)
  · have hle : i = L.length := by have := of_decide_eq_false h1; omega
    refine qW (.upd ha .refl) ha updM_same (fun d hd => by obtain ⟨r, _, rfl⟩ := List.mem_map.mp hd; exact j9 r) (q L (fun x => ⟨rB x, fun h => ?_⟩) Ox)
    induction h with
    | base => exact Lc
    | @step y k h hk hm ih =>
      obtain ⟨j, hj⟩ := List.mem_iff_getElem?.mp ih
      exact d9 j y hj (by have := (List.getElem?_eq_some_iff.mp hj).1; omega) k hk hm
end
section
variable {P : Program} {w : World} {K : PySem.W.Frag} {mg : Str → Option Value} {base : Heap} {tb : da}
theorem BL {neg : Bool} {M : Mh} {ks : List (List Int)} {g : List Int} {Q : ZK} (q : Q (.bl (if neg then !decide (g ∈ ks) else decide (g ∈ ks))) M) : mj neg (eI g) (.lst (ks.map eI)) M Q := by
  unfold mj
  have e1 : now M (eI g) = eI g := rfl
  have e2 : now M (.lst (ks.map eI)) = .lst (ks.map eI) := rfl
  rw [e1, e2, wB]
  simp only [vR, qi]
  refine ⟨fun t ht => ?_, q⟩
  obtain ⟨k, _, rfl⟩ := List.mem_map.mp ht
  rw [il]
  have := vC k
  omega
theorem Ew {x y : Int} {M : Mh} {Q : ZK} (q : Q (.bl (decide (x = y))) M) : nP false (.int x) (.int y) M Q := by
  unfold nP
  have e1 : ∀ z : Int, bM (now M (.int z)) = some (.int z) := fun _ => rfl
  rw [e1, e1]
  refine ⟨by show (0 : Nat) ≤ 60; decide, ?_⟩
  have e2 : cy (Dt.int x) (Dt.int y) = decide (x = y) := rfl
  rw [e2]
  exact q
open Classical in
noncomputable def gG (ae : List (List Int)) (n : Nat) (p : List Int) : Bool := decide (dE ae n (· ∈ dD ae.length) p)
open Classical in
theorem iy {ae : List (List Int)} {n : Nat} {p : List Int} : gG ae n p = true ↔ dE ae n (· ∈ dD ae.length) p := by
  unfold gG
  exact ⟨of_decide_eq_true, fun h => decide_eq_true h⟩
noncomputable def ux : cU := fun ds M Q _ => ∃ ae n p, ds = [eN ae, eI p] ∧ dQ ae n ∧ p ∈ aF ae.length ∧ Q (.bl (gG ae n p)) M
theorem uy {m u v : Nat} (h : v < m) : [(u : Int), (v : Int)] ∈ dD m ↔ u = v := by
  unfold dD
  rw [List.mem_map]
  constructor
  · rintro ⟨i, _, e⟩
    have e1 := (List.cons.inj e).1
    have e2 := (List.cons.inj (List.cons.inj e).2).1
    omega
  · rintro rfl
    exact ⟨u, List.mem_range.mpr h, rfl⟩
theorem n5 {f f1 f2 : Addr} {fd cW fd2 : FuncData} (D : Df K mg "_law_is_called" di ["_law_net_here", "_law_pair"] f fd)
    (cc : Df K mg "_law_led" gC ["_law_net_here", "_law_pair"] f1 cW) (k6 : FnOk P w K mg base bc 2 f1 cW ["_law_net_here", "_law_pair"] (aT P w K tb w6))
    (bJ : Df K mg "_law_goals" dY ["_law_net_here", "_law_pair"] f2 fd2) (jq : FnOk P w K mg base bc 1 f2 fd2 ["_law_net_here", "_law_pair"] (aT P w K tb qh)) (bl : Bl mg) :
    FnOk P w K mg base bc 3 f fd ["_law_net_here", "_law_pair"] (aT P w K tb ux) := by
  refine dS D iG (fun ds M Q E hS => by obtain ⟨ae, n, p, e, _⟩ := hS; rw [e]; rfl) fun A outer s E Γ ds Q' E' hP hw hK ht hr hS => ?_
  obtain ⟨ae, n, p, e, O, hp, q⟩ := hS
  refine ⟨_, (ah (gz PassesOwn.never rfl (cX (K := K) rfl (aH k6 (hr.mono (by decide)) rfl cc.mg cc.fn.kp cc.bd aW hP hw hK ht XR.none (aa (qv 0) (aa (qv 1) af)))) (fun pj eP ew eK et => by have hP := hP.trans eP.symm; have hw := hw.trans ew.symm; have hK := hK.trans eK.symm; have ht := ht.trans et.symm; exact ⟨(aG (i := 2) iG.nd rfl (Or.inl rfl)), (aw (bU (dg (az (HD (K := K) rfl rfl) rfl bl.any_ HE (aa (bq (N' := ["_law_one", "_law_other"]) (tn := 2) (idx := []) rfl (show aB ["_law_net_here", "_law_pair", "_law_here"] (aj di) _ ["_law_one", "_law_other"] 2 [] from by decide +kernel) (cX (K := K) rfl (aH jq (hr.mono (by decide)) rfl bJ.mg bJ.fn.kp bJ.bd aW hP hw hK ht XR.none (aa (qv 0) (aa (qv 2) af)))) (fun _ _ _ _ _ => (ja (n := 2) rfl (b7 (aG (i := 0) (show List.Nodup [("_law_one" : Str), ("_law_other" : Str)] from by decide +kernel) rfl (Or.inl rfl)) (b7 (aG (i := 1) (show List.Nodup [("_law_one" : Str), ("_law_other" : Str)] from by decide +kernel) rfl (Or.inl rfl)) gQ)))) (fun _ _ _ _ _ => bB) (fun _ _ _ _ _ => (eF (oP hr.units) (qv 0) (qv 1) (aZ _)))) af)))
      (aw (aP fc))
      qss_nil))⟩))
    (aw (aP fc))), ?_⟩
  subst e
  have h9 := O.nine
  have C8 := O.wid
  have big : (1000 : Nat) < sizeLine := by decide
  simp! only []
  refine ⟨ae, n, p, rfl, O, hp, fun L hL hl => ?_⟩
  refine dC (fun i ρ M => (∃ x, ρ = [some (eN ae), some (eI p), x]) ∧ M = Γ.M0 ∧ ∀ j h, L[j]? = some h → j < i → ∀ k, k < n → dP ae h k ∉ dD ae.length) ⟨⟨_, rfl⟩, rfl, fun j h _ z => absurd z (Nat.not_lt_zero _)⟩ (fun i d ρ M N hd hJ hN => ?_) (fun ρ M hJ => ?_)
  · obtain ⟨⟨x, rfl⟩, rfl, tN⟩ := hJ
    obtain ⟨h, hh, rfl⟩ := jc hd
    have rB := (hL h).mp (List.mem_of_getElem? hh)
    have Ic := rB.mem hp
    simp! only []
    refine ⟨ae, n, h, rfl, O, Ic, ?_⟩
    simp! only [List.length_range]
    refine ⟨by omega, f7 (fun d => match d with | .tup [.int x, .int y] => .bl (decide (x = y)) | d => d) (fun τ M => (∃ x y, τ = [x, y]) ∧ M = Γ.M0) ⟨⟨_, _, rfl⟩, rfl⟩ (fun d hd τ M hJ R k => ?_) (fun τ M hJ => ?_)⟩
    · obtain ⟨⟨x, y, rfl⟩, rfl⟩ := hJ
      obtain ⟨r, hr, rfl⟩ := List.mem_map.mp hd
      obtain ⟨k', ny, rfl⟩ := List.mem_map.mp hr
      obtain ⟨u, v, Le, hv, er⟩ := kY.mp (qj O Ic (List.mem_range.mp ny))
      rw [er] at k ⊢
      simp! only []
      exact Ew (k _ _ ⟨⟨_, _, rfl⟩, rfl⟩)
    · obtain ⟨⟨x, y, rfl⟩, rfl⟩ := hJ
      have e : (((List.range n).map (dP ae h)).map eI).map (fun d => match d with | .tup [.int x, .int y] => Dv.bl (decide (x = y)) | d => d) = ((List.range n).map fun k => decide (dP ae h k ∈ dD ae.length)).map Dv.bl := by
        rw [List.map_map, List.map_map, List.map_map]
        refine List.map_congr_left fun k hk => ?_
        obtain ⟨u, v, Le, hv, er⟩ := kY.mp (qj O Ic (List.mem_range.mp hk))
        simp only [Function.comp]
        rw [er]
        show Dv.bl (decide ((u : Int) = (v : Int))) = _
        congr 1
        rw [decide_eq_decide, uy hv]
        omega
      rw [e, iL]
      simp! only []
      refine eS (fun h1 => ?_) (fun h1 => ?_)
      · rw [List.any_map, List.any_eq_true] at h1
        obtain ⟨k, hk, h1⟩ := h1
        have : gG ae n p = true := iy.mpr ((mX hp).mpr ⟨h, rB, .inr ⟨k, List.mem_range.mp hk, of_decide_eq_true h1⟩⟩)
        rw [this] at q
        exact .inl q
      · refine hN _ _ ⟨⟨_, rfl⟩, rfl, fun j h' hj Oy k hk hm => ?_⟩
        by_cases e : j = i
        · subst e
          rw [hh] at hj; cases hj
          rw [List.any_map, List.any_eq_false] at h1
          exact h1 k (List.mem_range.mpr hk) (decide_eq_true hm)
        · exact tN j h' hj (by omega) k hk hm
  · obtain ⟨⟨x, rfl⟩, rfl, tN⟩ := hJ
    rw [List.length_map] at tN
    have : gG ae n p = false := by
      rw [Bool.eq_false_iff]
      intro z
      obtain ⟨h, h1, h2⟩ := (mX hp).mp (iy.mp z)
      obtain ⟨j, hj⟩ := List.mem_iff_getElem?.mp ((hL h).mpr h1)
      rcases h2 with h2 | ⟨k, hk, h2⟩
      · obtain ⟨a, b, dj, hb, rfl⟩ := bZ.mp (h1.mem hp)
        have := (uy hb).mp h2
        omega
      · exact tN j h hj (List.getElem?_eq_some_iff.mp hj).1 k hk h2
    rw [this] at q
    simp! only []
    exact .inl q
theorem xa {ae : List (List Int)} {n : Nat} {p : List Int} (hp : p ∈ aF ae.length) : p ∈ bC ae n ↔ ∀ q, ix ae n p q → gG ae n q = true := by
  unfold bC
  rw [gb]
  constructor
  · rintro ⟨_, h⟩ q hq
    exact Classical.byContradiction fun z => h ((mX hp).mpr ⟨q, hq, .inl (gb.mpr ⟨hq.mem hp, fun w => z (iy.mpr w)⟩)⟩)
  · intro h
    refine ⟨hp, fun z => ?_⟩
    obtain ⟨q, hq, h2⟩ := (mX hp).mp z
    rcases h2 with h2 | ⟨k, hk, h2⟩
    · exact (gb.mp h2).2 (iy.mp (h q hq))
    · exact (gb.mp h2).2 (iy.mp (h _ (hq.step hk (gb.mp h2).1)))
open Classical in
theorem u5 {ae : List (List Int)} {n : Nat} {f : List Int → Bool} (h : ∀ p ∈ aF ae.length, f p = true ↔ p ∈ bC ae n) : (aF ae.length).filter f = bC ae n := by
  unfold bC jT
  refine List.filter_congr fun p hp => ?_
  rw [Bool.eq_iff_iff, h p hp, decide_eq_true_eq]
  unfold bC
  rw [gb]
  exact and_iff_right hp
noncomputable def uz : cU := fun ds M Q _ => ∃ ae n, ds = [eN ae] ∧ dQ ae n ∧ Q (.lst ((bC ae n).map eI)) M
theorem rJ {f f1 f2 f3 : Addr} {fd cW fd2 jJ : FuncData} (D : Df K mg "_law_stable" dz ["_law_net_here"] f fd)
    (d8 : Df K mg "_law_pairs" e8 ["_law_many"] f1 cW) (uA : FnOk P w K mg base bc 1 f1 cW ["_law_many"] (aT P w K tb vQ))
    (cc : Df K mg "_law_led" gC ["_law_net_here", "_law_pair"] f2 fd2) (k6 : FnOk P w K mg base bc 2 f2 fd2 ["_law_net_here", "_law_pair"] (aT P w K tb w6))
    (cu : Df K mg "_law_is_called" di ["_law_net_here", "_law_pair"] f3 jJ) (n6 : FnOk P w K mg base bc 3 f3 jJ ["_law_net_here", "_law_pair"] (aT P w K tb ux)) (bl : Bl mg) :
    FnOk P w K mg base bc 4 f fd ["_law_net_here"] (aT P w K tb uz) := by
  refine dS D hU (fun ds M Q E hS => by obtain ⟨ae, n, e, _⟩ := hS; rw [e]; rfl) fun A outer s E Γ ds Q' E' hP hw hK ht hr hS => ?_
  obtain ⟨ae, n, e, O, q⟩ := hS
  refine ⟨_, (ah (aQ (i := 1) hU.nd rfl (Or.inl rfl) (aH uA (hr.mono (by decide)) rfl d8.mg d8.fn.kp d8.bd aW hP hw hK ht XR.none (aa (az (eB (K := K) rfl hK) rfl bl.len_ PySem.boot_len (aa (qv 0) af)) af)))
    (ah (aQ (i := 2) hU.nd rfl (Or.inr rfl) (bq (N' := ["_law_pair", "_law_net_here"]) (tn := 1) (idx := [0]) rfl (show aB ["_law_net_here", "_law_pairs_here", "_law_callable_ones"] (aj dz) _ ["_law_pair", "_law_net_here"] 1 [0] from by decide +kernel) (cX (K := K) rfl (qv 1)) (fun _ _ _ _ _ => (aG (i := 0) (show List.Nodup [("_law_pair" : Str), ("_law_net_here" : Str)] from by decide +kernel) rfl (Or.inl rfl))) (fun _ _ _ _ _ => (j6 (dg (aH n6 (hr.mono (by decide)) rfl cu.mg cu.fn.kp cu.bd aW hP hw hK ht XR.none (aa (qv 1) (aa (qv 0) af)))))) (fun _ _ _ _ _ => (qv 0))))
    (aw (aP (bq (N' := ["_law_pair", "_law_callable_ones", "_law_net_here"]) (tn := 1) (idx := [2, 0]) rfl (show aB ["_law_net_here", "_law_pairs_here", "_law_callable_ones"] (aj dz) _ ["_law_pair", "_law_callable_ones", "_law_net_here"] 1 [2, 0] from by decide +kernel) (cX (K := K) rfl (qv 1)) (fun _ _ _ _ _ => (aG (i := 0) (show List.Nodup [("_law_pair" : Str), ("_law_callable_ones" : Str), ("_law_net_here" : Str)] from by decide +kernel) rfl (Or.inl rfl))) (fun _ _ _ _ _ => (j6 (dg (az (tI (K := K) rfl rfl) rfl bl.all_ sO (aa (bq (N' := ["_law_there", "_law_callable_ones"]) (tn := 1) (idx := [1]) rfl (aB.rel (show aB ["_law_pair", "_law_callable_ones", "_law_net_here"] _ _ ["_law_there", "_law_callable_ones"] 1 [1] from by decide +kernel)) (cX (K := K) rfl (aH k6 (hr.mono (by decide)) rfl cc.mg cc.fn.kp cc.bd aW hP hw hK ht XR.none (aa (qv 2) (aa (qv 0) af)))) (fun _ _ _ _ _ => (aG (i := 0) (show List.Nodup [("_law_there" : Str), ("_law_callable_ones" : Str)] from by decide +kernel) rfl (Or.inl rfl))) (fun _ _ _ _ _ => bB) (fun _ _ _ _ _ => (eF (JE hr.units) (qv 0) (qv 1) (by rfl)))) af))))) (fun _ _ _ _ _ => (qv 0))))))), ?_⟩
  subst e
  have h9 := O.nine
  have pl := pairs_len h9
  have big : (1000 : Nat) < sizeLine := by decide
  simp! only []
  refine ⟨ae.length, rfl, h9, ?_⟩
  simp! only []
  refine ⟨by omega, gU (fun d => match d with | .tup [.int x, .int y] => gG ae n [x, y] | _ => false) (fun d hd R hR => ?_) ?_⟩
  · obtain ⟨p, hp, rfl⟩ := List.mem_map.mp hd
    obtain ⟨a, b, dj, hb, rfl⟩ := bZ.mp hp
    exact ⟨ae, n, _, rfl, O, hp, hR⟩
  · have e : ((aF ae.length).map eI).filter (fun d => match d with | .tup [.int x, .int y] => gG ae n [x, y] | _ => false) = ((aF ae.length).filter (gG ae n)).map eI := by
      rw [List.filter_map]
      congr 1
      refine List.filter_congr fun p hp => ?_
      obtain ⟨a, b, dj, hb, rfl⟩ := bZ.mp hp
      rfl
    rw [e]
    obtain ⟨cs, vD⟩ : ∃ cs, cs = (aF ae.length).filter (gG ae n) := ⟨_, rfl⟩
    rw [← vD]
    have Lg : ∀ p, p ∈ cs ↔ p ∈ aF ae.length ∧ gG ae n p = true := fun p => by rw [vD, List.mem_filter]
    refine ⟨by omega, gU (fun d => match d with | .tup [.int x, .int y] => decide ([x, y] ∈ bC ae n) | _ => false) (fun d hd R hR => ?_) ?_⟩
    · obtain ⟨p, hp, rfl⟩ := List.mem_map.mp hd
      have ua : R (decide (p ∈ bC ae n)) Γ.M0 := by
        obtain ⟨a, b, dj, hb, rfl⟩ := bZ.mp hp
        exact hR
      simp! only []
      refine ⟨ae, n, p, rfl, O, hp, fun L hL hl => ?_⟩
      simp! only []
      refine ⟨by omega, f7 (fun d => match d with | .tup [.int x, .int y] => .bl (decide ([x, y] ∈ cs)) | d => d) (fun τ M => (∃ x, τ = [x, some (.lst (cs.map eI))]) ∧ M = Γ.M0) ⟨⟨_, rfl⟩, rfl⟩ (fun d hd τ M hJ R k => ?_) (fun τ M hJ => ?_)⟩
      · obtain ⟨⟨x, rfl⟩, rfl⟩ := hJ
        obtain ⟨h, hh, rfl⟩ := List.mem_map.mp hd
        obtain ⟨a, b, dj, hb, rfl⟩ := bZ.mp (((hL h).mp hh).mem hp)
        simp! only []
        exact BL (g := [(a : Int), (b : Int)]) (k _ _ ⟨⟨_, rfl⟩, rfl⟩)
      · obtain ⟨⟨x, rfl⟩, rfl⟩ := hJ
        have e : (L.map eI).map (fun d => match d with | .tup [.int x, .int y] => Dv.bl (decide ([x, y] ∈ cs)) | d => d) = (L.map fun h => decide (h ∈ cs)).map Dv.bl := by
          rw [List.map_map, List.map_map]
          refine List.map_congr_left fun h hh => ?_
          obtain ⟨a, b, dj, hb, rfl⟩ := bZ.mp (((hL h).mp hh).mem hp)
          rfl
        have e2 : (L.map fun h => decide (h ∈ cs)).all id = decide (p ∈ bC ae n) := by
          rw [Bool.eq_iff_iff, List.all_map, List.all_eq_true, decide_eq_true_eq, xa hp]
          constructor
          · intro h q hq
            exact ((Lg q).mp (of_decide_eq_true (h q ((hL q).mpr hq)))).2
          · intro h q hq
            exact decide_eq_true ((Lg q).mpr ⟨((hL q).mp hq).mem hp, h q ((hL q).mp hq)⟩)
        rw [e, iL]
        simp! only []
        rw [e2]
        exact ua
    · have e : ((aF ae.length).map eI).filter (fun d => match d with | .tup [.int x, .int y] => decide ([x, y] ∈ bC ae n) | _ => false) = (bC ae n).map eI := by
        rw [List.filter_map]
        congr 1
        have : ∀ p ∈ aF ae.length, ((fun d => match d with | .tup [.int x, .int y] => decide ([x, y] ∈ bC ae n) | _ => false) ∘ eI) p = decide (p ∈ bC ae n) := fun p hp => by
          obtain ⟨a, b, dj, hb, rfl⟩ := bZ.mp hp
          rfl
        exact u5 fun p hp => by rw [this p hp, decide_eq_true_eq]
      rw [e]
      exact .inl q
end
section
variable {P : Program} {w : World} {K : PySem.W.Frag} {mg : Str → Option Value} {base : Heap} {tb : da}
theorem mE : aU ["_law_script", "_law_k", "_law_net_here", "_law_due", "_law_found"] ["_law_script"] (aj wQ) := ⟨rfl, rfl, rfl, by decide +kernel, rfl, by decide +kernel, by decide +kernel⟩
theorem BM (ks : List (List Int)) (h : ks.length ≤ 1000) (h2 : ∀ k ∈ ks, k.length ≤ 1000) : rX 2 (.lst (ks.map eI)) := by
  refine ⟨_, .inl rfl, by rw [List.length_map]; exact h, fun x hx => ?_⟩
  obtain ⟨k, hk, rfl⟩ := List.mem_map.mp hx
  refine ⟨_, .inr rfl, by rw [List.length_map]; exact h2 k hk, fun x hx => ?_⟩
  obtain ⟨i, _, rfl⟩ := List.mem_map.mp hx
  exact ⟨i, rfl⟩
theorem BO {ae : List (List Int)} {n : Nat} (O : dQ ae n) : rX 2 (.lst ((bC ae n).map eI)) := BM _ (by have := vP (n := n) (G := (· ∈ pC ae n)) O.nine; show (jT _ _ _).length ≤ _; omega) fun k hk => by
  obtain ⟨a, b, _, _, rfl⟩ := bZ.mp (gb.mp hk).1
  exact (show (2 : Nat) ≤ 1000 by decide)
theorem Ie {f f1 f2 f3 f4 f5 : Addr} {fd cW fd2 jJ pE zW : FuncData} (D : Df K mg "law" wQ ["_law_script"] f fd)
    (fj : Df K mg "_law_bag" iO ["_law_script", "_law_at"] f1 cW) (xc : FnOk P w K mg base bc 1 f1 cW ["_law_script", "_law_at"] (aT P w K tb HF))
    (fk : Df K mg "_law_net" b8 ["_law_bag_here", "_law_most"] f2 fd2) (xf : FnOk P w K mg base bc 3 f2 fd2 ["_law_bag_here", "_law_most"] (aT P w K tb CZ))
    (dA : Df K mg "_law_stable" dz ["_law_net_here"] f3 jJ) (rK : FnOk P w K mg base bc 4 f3 jJ ["_law_net_here"] (aT P w K tb uz))
    (bO : Df K mg "stable_pairs" dX ["net"] f4 pE) (qk : FnOk P w K mg base (fy P w) 9 f4 pE ["net"] (aT P w K tb uo)) (n8 : FnOk P w K mg base (fy P w) 9 f4 pE ["net"] (aT P w K tb uq))
    (aS : Df K mg "_law_like" dJ ["_law_found", "_law_due"] f5 zW) (eJ : FnOk P w K mg base bc 3 f5 zW ["_law_found", "_law_due"] (aT P w K tb (rY 2))) (bl : Bl mg) :
    FnOk P w K mg base bc 10 f fd ["_law_script"] (aT P w K tb G7) := by
  refine dS D mE (fun ds M Q E hS => by obtain ⟨ns, e, _⟩ := hS; rw [e]; rfl) fun A outer s E Γ ds Q' E' hP hw hK ht hr hS => ?_
  obtain ⟨ns, e, hl, hM, q⟩ := hS
  refine ⟨_, (ah (vt PassesOwn.never rfl (bY rfl bl.range_ (aa (az (yU rfl) rfl bl.max_ yj (aa aC (aa (az (tu rfl) rfl bl.min_ sL (aa (az (eB (K := K) rfl hK) rfl bl.len_ PySem.boot_len (aa (qv 0) af)) (aa aC af))) af))) af)) (fun pj M1 hM eP ew eK et => by have hP := hP.trans eP.symm; have hw := hw.trans ew.symm; have hK := hK.trans eK.symm; have ht := ht.trans et.symm; exact ⟨(aG (i := 1) mE.nd rfl (Or.inl rfl)), (ah (aQ (i := 2) mE.nd rfl (Or.inl rfl) (aH xf (hr.mono (by decide)) rfl fk.mg fk.fn.kp fk.bd aW hP hw hK ht XR.none (aa (aH xc (hr.mono (by decide)) rfl fj.mg fj.fn.kp fj.bd aW hP hw hK ht XR.none (aa (qv 0) (aa (qv 1) af))) (aa aC af))))
    (ah (aQ (i := 3) mE.nd rfl (Or.inl rfl) (aH rK (hr.mono (by decide)) rfl dA.mg dA.fn.kp dA.bd aW hP hw hK ht XR.none (aa (qv 2) af)))
    (ah (aQ (i := 4) mE.nd rfl (Or.inl rfl) (aH qk (hr.mono (by decide)) rfl bO.mg bO.fn.kp bO.bd Cu hP hw hK ht XR.none (aa (qv 2) af)))
    (ah (bU (j1 (dg (D6 4 hM (aH eJ (hr.mono (by decide)) rfl aS.mg aS.fn.kp aS.bd aW hP hw hK ht XR.none (aa (qv 4) (aa (qv 3) af))))))
      (aw (aP fc))
      qss_nil)
    (ah (iR (yW (K := K) rfl PySem.F.plainAttrs_list PySem.F.slot_list_clear PySem.F.type_list_clear Ed (qv 4)))
    (aw (bU (j1 (dg (aH eJ (hr.mono (by decide)) rfl aS.mg aS.fn.kp aS.bd aW hP hw hK ht XR.none (aa (aH n8 (hr.mono (by decide)) rfl bO.mg bO.fn.kp bO.bd Cu hP hw hK ht XR.none (aa (qv 2) af)) (aa (qv 3) af)))))
      (aw (aP fc))
      qss_nil)))))))⟩))
    (aw (aP fc))), ?_⟩
  subst e
  simp! only []
  refine ⟨by split <;> split <;> omega, by split <;> split <;> omega, ?_⟩
  refine dC (fun k ρ M => (∃ x1 x2 x3 x4, ρ = [some (.bw ns), x1, x2, x3, x4]) ∧ ∀ b o, M b = some o → o = .cH ∨ o = .lst []) ⟨⟨_, _, _, _, rfl⟩, fun b o e => by rw [hM b] at e; cases e⟩ (fun k d ρ M N hd hJ hN => ?_) (fun ρ M _ => .inl (q _))
  obtain ⟨⟨x1, x2, x3, x4, rfl⟩, hO⟩ := hJ
  obtain ⟨rfl, hk⟩ := cV hd
  have hk : k ≤ 20 := by split at hk <;> split at hk <;> omega
  have big : (1000 : Nat) < sizeLine := by decide
  simp! only []
  refine ⟨ns, _, rfl, hl, by omega, by omega, fun b hb => ?_⟩
  refine ⟨b, 9, rfl, updM_same, by omega, by omega, fun ae n O _ => ?_⟩
  simp! only []
  refine ⟨ae, n, rfl, O, ae, n, rfl, O, fun a ha => ?_⟩
  have K4 : b ≠ a := fun z => by rw [← z, updM_same] at ha; cases ha
  have Ig : ∀ c o, av M b .cH c = some o → o = .cH ∨ o = .lst [] := fun c o e => by
    by_cases z : c = b
    · subst z; rw [updM_same] at e; cases e; exact .inl rfl
    · rw [ao z] at e; exact hO c o e
  have like := BO O
  have dm : bV (av (av M b .cH) a (.lst ((bC ae n).map eI))) a = av M b .cH := wG ha
  have Dc : ∀ (M' : Mh), ∀ d ∈ (bC ae n).map eI, Pin M' d := fun M' d hd => by obtain ⟨k, _, rfl⟩ := List.mem_map.mp hd; exact j9 k
  refine .inr ⟨a, _, rfl, updM_same, hM a, ⟨fun j d e => ?_, fun c o e => ?_⟩, fun c o e nc => ?_, ?_⟩
  · match j, e with
    | 0, e => cases e; exact .bw _
    | 1, e => cases e; exact .int _
    | 2, e => cases e; exact y0 ae
    | 3, e => cases e; exact .lst (Dc _)
    | 4, e => cases e; exact .lst (Dc _)
    | j + 5, e => exact nomatch e
  · rw [dm] at e
    rcases Ig c o e with rfl | rfl <;> exact .inr fun d hd => nomatch hd
  · rw [ao nc] at e
    rcases Ig c o e with rfl | rfl <;> exact fun d hd => nomatch hd
  · rw [dm]
    refine ⟨_, rfl, like, rfl, by first | trivial | rfl | constructor, ?_⟩
    simp! only []
    refine ⟨ae, n, rfl, O, _, rfl, like, hN _ _ ⟨⟨_, _, _, _, rfl⟩, fun c o e => ?_⟩⟩
    by_cases z : c = a
    · subst z; rw [updM_same] at e; cases e; exact .inr rfl
    · rw [ao z] at e; exact Ig c o e
end
theorem all_mk {l : PySem.W.OpenLaw} {w : World} {K : PySem.W.Frag} {h : Heap} {mg : Str → Option Value} {fa : Addr} {tabs lts : List Addr} {C_RoadError C_NoNet : Addr} (X : K.In h) (G : h.Ns mainGlobals mg) (Oz : mg "law" = some (.ref fa))
    (T : Paired (TabOf mg h) ["is_row", "is_net"] tabs) (U : Paired (TabOf mg h) [] lts)
    (u6 : PySem.W.nsIn K mainGlobals "RoadError" = some (some (.ref C_RoadError)))
    (Ez : PySem.W.nsIn K mainGlobals "NoNet" = some (some (.ref C_NoNet)))
    (eb : wk K C_RoadError [C_NoNet] = true) (Pa : [C_NoNet].Nodup)
    (xg : bT K "is_whole" fe)
    (oa : bT K "is_whole_below" dh)
    (BP : bT K "is_row" jk)
    (BQ : bT K "is_net" jl)
    (xh : bT K "need_net" iM)
    (u9 : bT K "all_pairs" dI)
    (xi : bT K "in_order" iN)
    (ql : bT K "coming_pairs" dW)
    (rL : bT K "led_to_some" dy)
    (qm : bT K "never_called" cY)
    (qo : bT K "stable_pairs" dX)
    (xj : bT K "_law_bag" iO)
    (va : bT K "_law_take" fE)
    (uB : bT K "_law_order" eZ)
    (xk : bT K "_law_net" b8)
    (vb : bT K "_law_like" dJ)
    (uC : bT K "_law_pairs" e8)
    (uD : bT K "_law_goals" dY)
    (xl : bT K "_law_led" gC)
    (oe : bT K "_law_is_called" di)
    (rM : bT K "_law_stable" dz)
    (JQ : bT K "law" wQ)
    (JR : PySem.W.nsIn K mainGlobals "len" = some none)
    (EA : PySem.W.nsIn K mainGlobals "range" = some none)
    (JS : PySem.W.nsIn K mainGlobals "min" = some none)
    (JT : PySem.W.nsIn K mainGlobals "max" = some none)
    (JU : PySem.W.nsIn K mainGlobals "abs" = some none)
    (Ih : PySem.W.nsIn K mainGlobals "list" = some none)
    (EB : PySem.W.nsIn K mainGlobals "tuple" = some none)
    (JV : PySem.W.nsIn K mainGlobals "int" = some none)
    (JW : PySem.W.nsIn K mainGlobals "str" = some none)
    (Ii : PySem.W.nsIn K mainGlobals "bool" = some none)
    (uE : PySem.W.nsIn K mainGlobals "isinstance" = some none)
    (JX : PySem.W.nsIn K mainGlobals "all" = some none)
    (JY : PySem.W.nsIn K mainGlobals "set" = some none)
    (BR : PySem.W.nsIn K mainGlobals "sorted" = some none)
    (JZ : PySem.W.nsIn K mainGlobals "zip" = some none)
    (vc : PySem.W.nsIn K mainGlobals "enumerate" = some none)
    (J0 : PySem.W.nsIn K mainGlobals "sum" = some none)
    (xm : PySem.W.nsIn K mainGlobals "reversed" = some none)
    (BU : PySem.W.nsIn K mainGlobals "divmod" = some none)
    (J1 : PySem.W.nsIn K mainGlobals "any" = some none)
    (uF : PySem.W.nsIn K mainGlobals "ValueError" = some none)
    (iB : ∃ tk, PySem.W.nsIn K mainGlobals "MOST_PLACES" = some (some (.int 9 tk)))
    : ∃ fd : FuncData, (∀ (s : Shared) (v : Value), BindsTo s fd ⟨[v], []⟩ [("_law_script", v)]) ∧ ∀ base : Heap, K.In base → base.Ns mainGlobals mg → (∃ bm ob, BMod base mainGlobals mg bm ob) → (∀ c p, PySem.W.CodeHd h c p → PySem.W.CodeHd base c p) → FnOk l.prog w K mg base bc 10 fa fd ["_law_script"] (spLaw K ⟨tabs, lts.zip []⟩) := by
  obtain ⟨J4, Iu, cC⟩ := xg.df X G ["thing"] fun _ _ _ _ _ _ us hl => match us, hl with | [_], _ => rfl
  obtain ⟨BV, Ad, bI⟩ := oa.df X G ["thing", "many"] fun _ _ _ _ _ _ us hl => match us, hl with | [_, _], _ => rfl
  obtain ⟨MB, Lh, fQ⟩ := BP.df X G ["thing", "many", "width"] fun _ _ _ _ _ _ us hl => match us, hl with | [_, _, _], _ => rfl
  obtain ⟨MC, Li, fR⟩ := BQ.df X G ["thing"] fun _ _ _ _ _ _ us hl => match us, hl with | [_], _ => rfl
  obtain ⟨J5, Iv, fi⟩ := xh.df X G ["thing"] fun _ _ _ _ _ _ us hl => match us, hl with | [_], _ => rfl
  obtain ⟨Iw, Ij, aY⟩ := u9.df X G ["net"] fun _ _ _ _ _ _ us hl => match us, hl with | [_], _ => rfl
  obtain ⟨J6, Iy, fh⟩ := xi.df X G ["one", "other"] fun _ _ _ _ _ _ us hl => match us, hl with | [_, _], _ => rfl
  obtain ⟨EC, Dd, bo⟩ := ql.df X G ["net"] fun _ _ _ _ _ _ us hl => match us, hl with | [_], _ => rfl
  obtain ⟨EK, ED, bz⟩ := rL.df X G ["coming", "goals"] fun _ _ _ _ _ _ us hl => match us, hl with | [_, _], _ => rfl
  obtain ⟨EE, De, cZ⟩ := qm.df X G ["net"] fun _ _ _ _ _ _ us hl => match us, hl with | [_], _ => rfl
  obtain ⟨EF, Dg, bO⟩ := qo.df X G ["net"] fun _ _ _ _ _ _ us hl => match us, hl with | [_], _ => rfl
  obtain ⟨J7, Iz, fj⟩ := xj.df X G ["_law_script", "_law_at"] fun _ _ _ _ _ _ us hl => match us, hl with | [_, _], _ => rfl
  obtain ⟨IA, Ik, ax⟩ := va.df X G ["_law_bag_here", "_law_many"] fun _ _ _ _ _ _ us hl => match us, hl with | [_, _], _ => rfl
  obtain ⟨Il, EL, b9⟩ := uB.df X G ["_law_bag_here", "_law_many"] fun _ _ _ _ _ _ us hl => match us, hl with | [_, _], _ => rfl
  obtain ⟨J8, IB, fk⟩ := xk.df X G ["_law_bag_here", "_law_most"] fun _ _ _ _ _ _ us hl => match us, hl with | [_, _], _ => rfl
  obtain ⟨IC, Im, aS⟩ := vb.df X G ["_law_found", "_law_due"] fun _ _ _ _ _ _ us hl => match us, hl with | [_, _], _ => rfl
  obtain ⟨Io, ER, d8⟩ := uC.df X G ["_law_many"] fun _ _ _ _ _ _ us hl => match us, hl with | [_], _ => rfl
  obtain ⟨Ip, EV, bJ⟩ := uD.df X G ["_law_net_here", "_law_pair"] fun _ _ _ _ _ _ us hl => match us, hl with | [_, _], _ => rfl
  obtain ⟨J9, IE, cc⟩ := xl.df X G ["_law_net_here", "_law_pair"] fun _ _ _ _ _ _ us hl => match us, hl with | [_, _], _ => rfl
  obtain ⟨BW, Ae, cu⟩ := oe.df X G ["_law_net_here", "_law_pair"] fun _ _ _ _ _ _ us hl => match us, hl with | [_, _], _ => rfl
  obtain ⟨EW, EG, dA⟩ := rM.df X G ["_law_net_here"] fun _ _ _ _ _ _ us hl => match us, hl with | [_], _ => rfl
  obtain ⟨OA, Iq, xn⟩ := JQ.df X G ["_law_script"] fun _ _ _ _ _ _ us hl => match us, hl with | [_], _ => rfl
  have IG := PySem.W.mg_of X G u6
  have qb := PySem.W.mg_of X G Ez
  have X_ := DL eb
  have qa : C_NoNet ∈ [C_NoNet] := by simp
  have e := Oz.symm.trans xn.mg
  cases e
  have bl : Bl mg := ⟨PySem.W.mg_none_of X G JR, PySem.W.mg_none_of X G EA, PySem.W.mg_none_of X G JS, PySem.W.mg_none_of X G JT, PySem.W.mg_none_of X G JU, PySem.W.mg_none_of X G Ih, PySem.W.mg_none_of X G EB, PySem.W.mg_none_of X G JV, PySem.W.mg_none_of X G JW, PySem.W.mg_none_of X G Ii, PySem.W.mg_none_of X G uE, PySem.W.mg_none_of X G JX, PySem.W.mg_none_of X G JY, PySem.W.mg_none_of X G BR, PySem.W.mg_none_of X G JZ, PySem.W.mg_none_of X G vc, PySem.W.mg_none_of X G J0, PySem.W.mg_none_of X G xm, PySem.W.mg_none_of X G BU, PySem.W.mg_none_of X G J1, PySem.W.mg_none_of X G uF⟩
  obtain ⟨EH, iB⟩ := iB
  have g6 := PySem.W.mg_of X G iB
  obtain ⟨bf, Lj, rfl, BX, T⟩ := hV T
  obtain ⟨bF, Lk, rfl, BZ, T⟩ := hV T
  cases T
  cases U
  refine ⟨Iq, fun s v => xn.bind1 s v (by intros; rfl), fun base _ _ jw tr => ?_⟩
  obtain ⟨kR, gZ⟩ := ym fQ X BX tr
  obtain ⟨ud, kT⟩ := ym fR X BZ tr
  have zZ : bf ∈ (⟨[bf, bF], []⟩ : da) := by show _ ∈ [bf, bF]; simp
  have z4 : bF ∈ (⟨[bf, bF], []⟩ : da) := by show _ ∈ [bf, bF]; simp
  have nX := zP (P := l.prog) (w := w) (tb := (⟨[bf, bF], []⟩ : da)) fR kT z4 fQ gZ zZ jw bI cC bl g6
  have kZ := uY fi fR nX X_ qa qb
  have cD := ue (P := l.prog) (w := w) (base := base) (tb := (⟨[bf, bF], []⟩ : da)) aY bl
  have kX := u3 (P := l.prog) (w := w) (base := base) (tb := (⟨[bf, bF], []⟩ : da)) fh
  have uG := pA bo aY cD fh kX bl
  have pI := qf (P := l.prog) (w := w) (base := base) (tb := (⟨[bf, bF], []⟩ : da)) bz bl
  have EI := pD cZ fi kZ aY cD bo uG bz pI bl
  obtain ⟨B1, xo⟩ := pF bO aY cD bo uG bz pI cZ EI bl
  have z9 := HG (tb := (⟨[bf, bF], []⟩ : da)) (uU (P := l.prog) (w := w) (base := base) ax)
  have Ka := JO (tb := (⟨[bf, bF], []⟩ : da)) (wR (P := l.prog) (w := w) (base := base) fj bl)
  have EJ := t6 b9 ax z9 bl
  have Kb := wV fk ax z9 b9 EJ bl
  have B2 := uv (P := l.prog) (w := w) (base := base) (tb := (⟨[bf, bF], []⟩ : da)) d8 bl
  have uH := uw (P := l.prog) (w := w) (base := base) (tb := (⟨[bf, bF], []⟩ : da)) bJ bl
  have Aa := w9 cc bJ uH bl
  have Ab := n5 cu cc Aa bJ uH bl
  have Ac := rJ dA d8 B2 cc Aa cu Ab bl
  have Ir := rA aS (rA aS (zY (P := l.prog) (w := w) (base := base) (tb := (⟨[bf, bF], []⟩ : da)) aS bl) bl) bl
  exact G8 (Ie xn fj Ka fk Kb dA Ac bO B1 xo aS Ir bl)
theorem walk {l : PySem.W.OpenLaw} {q : Program} {loose : List Str} {XP : (Str → Option Value) → Heap → Prop} {YP : World → Heap → Prop} {d : DefRec} {K : Params → PySem.W.Frag} (hn : l.most = some 63) (xY : d.params.defaults = [])
    (zf : ∀ w : World, PySem.W.kb_classed (K w.params) = true) (CN : ∀ y ∈ ((["is_row", "is_net"] : List Str) ++ ([] : List Str)), ∃ r ∈ recsOf q, r.name = y) (Hk : ∀ w : World, p0 (K w.params) ["is_row", "is_net"] [] = true) (hY : ∀ (w : World) (h : Heap), YP w h → (K w.params).In h)
    (F : ∀ (w : World) (mg : Str → Option Value) (fa : Addr) (h : Heap) (tabs lts : List Addr), (K w.params).In h → h.Ns mainGlobals mg → mg d.name = some (.ref fa) →
      Paired (TabOf mg h) ["is_row", "is_net"] tabs → Paired (TabOf mg h) [] lts →
      ∃ fd : FuncData, (∀ (s : Shared) (u : Value), BindsTo s fd ⟨[u], []⟩ [("_law_script", u)]) ∧
        ∀ base : Heap, (K w.params).In base → base.Ns mainGlobals mg → (∃ bm ob, BMod base mainGlobals mg bm ob) → (∀ c p, PySem.W.CodeHd h c p → PySem.W.CodeHd base c p) → FnOk l.prog w (K w.params) mg base bc 10 fa fd ["_law_script"] (spLaw (K w.params) ⟨tabs, lts.zip []⟩)) :
    PySem.W.WalkO q loose XP YP l.row.toRowW d [] (fun f vs => PySem.call f vs) :=
  L2.Bp (n := 63) (k := 10) (x := "_law_script") (CX := bc) (sp := fun K tabs lts => spLaw K ⟨tabs, lts.zip []⟩) hn (by decide) xY ⟨rfl, by decide, by decide⟩ zf CN Hk hY F (fun _ _ _ _ a ns hl hn hT hL hS => Bq hl hn hT hL hS) fun _ _ _ _ z => z
end My
open PySem PySem.W PyProof.Rows L2
set_option maxRecDepth 100000 in
set_option maxHeartbeats 0 in
theorem PySem.Challenge.cw_roadcall_k28_stable_pairs_holds : PySem.Challenge.rw_roadcall_k28_stable_pairs.Holds := by
  w_on; o_law
  refine My.Dh (q := My.kq) (loose := My.kL) (H := My.kH) My.left (by rfl) (by rfl) (by rfl) (by rfl) (by first | assumption | decide +kernel) (by decide +kernel) ⟨rfl, rfl, rfl, rfl, rfl, by decide +kernel⟩ ?hw ?hc
  (case hw => w_witness2)
  refine My.walk (l := PySem.Challenge.rw_roadcall_k28_stable_pairs) rfl rfl (fun w => by kernel_rfl) (recs_of (by decide +kernel)) (fun w => by kernel_rfl) (fun w h Y => Y) ?F
  intro w mg fa h tabs lts KX G xZ T U
  exact My.all_mk (C_RoadError := 24) (C_NoNet := 37) KX G xZ T U
    (by kernel_rfl)
    (by kernel_rfl)
    (by kernel_rfl)
    (by decide)
    (L2.a9 (f := 46) (oc := .type "function") (od := none) (sl := #[]) (kV := .none) (dc := .none) (pm := My.vS "roadcall.whole" 223) (an := none) (cd := .ref 45) (ct := .none) (by kernel_rfl) (by kernel_rfl) (by kernel_rfl) (by kernel_rfl))
    (L2.a9 (f := 53) (oc := .type "function") (od := none) (sl := #[]) (kV := .none) (dc := .none) (pm := My.vS "roadcall.whole" 223) (an := none) (cd := .ref 52) (ct := .none) (by kernel_rfl) (by kernel_rfl) (by kernel_rfl) (by kernel_rfl))
    (L2.a9 (f := 60) (oc := .type "function") (od := none) (sl := #[]) (kV := .none) (dc := .none) (pm := My.vS "roadcall.nets" 240) (an := none) (cd := .ref 59) (ct := .none) (by kernel_rfl) (by kernel_rfl) (by kernel_rfl) (by kernel_rfl))
    (L2.a9 (f := 67) (oc := .type "function") (od := none) (sl := #[]) (kV := .none) (dc := .none) (pm := My.vS "roadcall.nets" 240) (an := none) (cd := .ref 66) (ct := .none) (by kernel_rfl) (by kernel_rfl) (by kernel_rfl) (by kernel_rfl))
    (L2.a9 (f := 74) (oc := .type "function") (od := none) (sl := #[]) (kV := .none) (dc := .none) (pm := My.vS "roadcall.nets" 240) (an := none) (cd := .ref 73) (ct := .none) (by kernel_rfl) (by kernel_rfl) (by kernel_rfl) (by kernel_rfl))
    (L2.a9 (f := 79) (oc := .type "function") (od := none) (sl := #[]) (kV := .none) (dc := .none) (pm := My.vS "roadcall.pairs" 270) (an := none) (cd := .ref 78) (ct := .none) (by kernel_rfl) (by kernel_rfl) (by kernel_rfl) (by kernel_rfl))
    (L2.a9 (f := 86) (oc := .type "function") (od := none) (sl := #[]) (kV := .none) (dc := .none) (pm := My.vS "roadcall.pairs" 270) (an := none) (cd := .ref 85) (ct := .none) (by kernel_rfl) (by kernel_rfl) (by kernel_rfl) (by kernel_rfl))
    (L2.a9 (f := 93) (oc := .type "function") (od := none) (sl := #[]) (kV := .none) (dc := .none) (pm := My.vS "roadcall.pairs" 270) (an := none) (cd := .ref 92) (ct := .none) (by kernel_rfl) (by kernel_rfl) (by kernel_rfl) (by kernel_rfl))
    (L2.a9 (f := 98) (oc := .type "function") (od := none) (sl := #[]) (kV := .none) (dc := .none) (pm := My.vS "roadcall.pairs" 270) (an := none) (cd := .ref 97) (ct := .none) (by kernel_rfl) (by kernel_rfl) (by kernel_rfl) (by kernel_rfl))
    (L2.a9 (f := 103) (oc := .type "function") (od := none) (sl := #[]) (kV := .none) (dc := .none) (pm := My.vS "roadcall.pairs" 270) (an := none) (cd := .ref 102) (ct := .none) (by kernel_rfl) (by kernel_rfl) (by kernel_rfl) (by kernel_rfl))
    (L2.a9 (f := 108) (oc := .type "function") (od := none) (sl := #[]) (kV := .none) (dc := .none) (pm := My.vS "roadcall.stable" 310) (an := none) (cd := .ref 107) (ct := .none) (by kernel_rfl) (by kernel_rfl) (by kernel_rfl) (by kernel_rfl))
    (L2.a9 (f := 115) (oc := .type "function") (od := none) (sl := #[]) (kV := .none) (dc := .none) (pm := My.vS "law_roadcall_k28_stable_pairs" 318) (an := none) (cd := .ref 114) (ct := .none) (by kernel_rfl) (by kernel_rfl) (by kernel_rfl) (by kernel_rfl))
    (L2.a9 (f := 122) (oc := .type "function") (od := none) (sl := #[]) (kV := .none) (dc := .none) (pm := My.vS "law_roadcall_k28_stable_pairs" 318) (an := none) (cd := .ref 121) (ct := .none) (by kernel_rfl) (by kernel_rfl) (by kernel_rfl) (by kernel_rfl))
    (L2.a9 (f := 127) (oc := .type "function") (od := none) (sl := #[]) (kV := .none) (dc := .none) (pm := My.vS "law_roadcall_k28_stable_pairs" 318) (an := none) (cd := .ref 126) (ct := .none) (by kernel_rfl) (by kernel_rfl) (by kernel_rfl) (by kernel_rfl))
    (L2.a9 (f := 132) (oc := .type "function") (od := none) (sl := #[]) (kV := .none) (dc := .none) (pm := My.vS "law_roadcall_k28_stable_pairs" 318) (an := none) (cd := .ref 131) (ct := .none) (by kernel_rfl) (by kernel_rfl) (by kernel_rfl) (by kernel_rfl))
    (L2.a9 (f := 137) (oc := .type "function") (od := none) (sl := #[]) (kV := .none) (dc := .none) (pm := My.vS "law_roadcall_k28_stable_pairs" 318) (an := none) (cd := .ref 136) (ct := .none) (by kernel_rfl) (by kernel_rfl) (by kernel_rfl) (by kernel_rfl))
    (L2.a9 (f := 142) (oc := .type "function") (od := none) (sl := #[]) (kV := .none) (dc := .none) (pm := My.vS "law_roadcall_k28_stable_pairs" 318) (an := none) (cd := .ref 141) (ct := .none) (by kernel_rfl) (by kernel_rfl) (by kernel_rfl) (by kernel_rfl))
    (L2.a9 (f := 147) (oc := .type "function") (od := none) (sl := #[]) (kV := .none) (dc := .none) (pm := My.vS "law_roadcall_k28_stable_pairs" 318) (an := none) (cd := .ref 146) (ct := .none) (by kernel_rfl) (by kernel_rfl) (by kernel_rfl) (by kernel_rfl))
    (L2.a9 (f := 154) (oc := .type "function") (od := none) (sl := #[]) (kV := .none) (dc := .none) (pm := My.vS "law_roadcall_k28_stable_pairs" 318) (an := none) (cd := .ref 153) (ct := .none) (by kernel_rfl) (by kernel_rfl) (by kernel_rfl) (by kernel_rfl))
    (L2.a9 (f := 159) (oc := .type "function") (od := none) (sl := #[]) (kV := .none) (dc := .none) (pm := My.vS "law_roadcall_k28_stable_pairs" 318) (an := none) (cd := .ref 158) (ct := .none) (by kernel_rfl) (by kernel_rfl) (by kernel_rfl) (by kernel_rfl))
    (L2.a9 (f := 164) (oc := .type "function") (od := none) (sl := #[]) (kV := .none) (dc := .none) (pm := My.vS "law_roadcall_k28_stable_pairs" 318) (an := none) (cd := .ref 163) (ct := .none) (by kernel_rfl) (by kernel_rfl) (by kernel_rfl) (by kernel_rfl))
    (L2.a9 (f := 171) (oc := .type "function") (od := none) (sl := #[]) (kV := .none) (dc := .none) (pm := My.vS "law_roadcall_k28_stable_pairs" 318) (an := none) (cd := .ref 170) (ct := .none) (by kernel_rfl) (by kernel_rfl) (by kernel_rfl) (by kernel_rfl))
    (by kernel_rfl)
    (by kernel_rfl)
    (by kernel_rfl)
    (by kernel_rfl)
    (by kernel_rfl)
    (by kernel_rfl)
    (by kernel_rfl)
    (by kernel_rfl)
    (by kernel_rfl)
    (by kernel_rfl)
    (by kernel_rfl)
    (by kernel_rfl)
    (by kernel_rfl)
    (by kernel_rfl)
    (by kernel_rfl)
    (by kernel_rfl)
    (by kernel_rfl)
    (by kernel_rfl)
    (by kernel_rfl)
    (by kernel_rfl)
    (by kernel_rfl)
    ⟨242, by kernel_rfl⟩
