import PyProof.Rows.All
import Wide.All
import OpenK.AllK
import Wide.FinOn
import Lean
import PyProof.EqAt
import PyProof.EqKinds
import PyProof.TupleCall
import PyProof.NeKinds
import PyProof.EnumMake
import PyProof.EnumFor
import PyProof.ZipIter
import PyProof.Rows.ZipGen
import KE.KLam
import PyProof.DictItems
import KE.KTurnsDict
import KE.KPairComp
import PySem.Challenge.RW_roadcall_k25_pairs_called
set_option linter.all false
set_option Elab.async false
set_option maxRecDepth 100000
namespace L2
open PySem PySem.Spec PyProof.Rows
noncomputable abbrev Key := Sum Int Str
noncomputable def mw : Key → Value → Bool
  | .inl k, v => Value.isInt k v
  | .inr x, v => Value.isStrOf x v
noncomputable def Lg (w : World) : Key → Int
  | .inl k => hashInt k
  | .inr x => hashStr w x
theorem bX : ∀ {k : Key} {v : Value}, mw k v = true → (∃ i t, k = Sum.inl i ∧ v = Value.int i t) ∨ (∃ x t, k = Sum.inr x ∧ v = Value.str x t)
  | .inl i, v, h => by
    obtain ⟨t, e⟩ := Value.isInt_shape (k := i) (v := v) h
    exact .inl ⟨i, t, rfl, e⟩
  | .inr x, v, h => by
    obtain ⟨t, e⟩ := Value.isStrOf_shape (x := x) (v := v) h
    exact .inr ⟨x, t, rfl, e⟩
theorem xQ (i : Int) (t : Tok) : mw (.inl i) (.int i t) = true := by simp [mw, Value.isInt]
theorem xR (x : Str) (t : Tok) : mw (.inr x) (.str x t) = true := by simp [mw, Value.isStrOf]
theorem EW (a b : Int) : decide ((Sum.inl a : Key) = Sum.inl b) = (a == b) := by
  by_cases e : a = b
  · subst e; simp
  · have h : ¬ (Sum.inl a : Key) = Sum.inl b := fun q => e (Sum.inl.inj q)
    rw [decide_eq_false h]
    exact (beq_eq_false_iff_ne.mpr e).symm
theorem EX (a b : Str) : decide ((Sum.inr a : Key) = Sum.inr b) = decide (a = b) := by
  by_cases e : a = b
  · subst e; simp
  · have h : ¬ (Sum.inr a : Key) = Sum.inr b := fun q => e (Sum.inr.inj q)
    rw [decide_eq_false h, decide_eq_false e]
theorem EY (a : Int) (b : Str) : decide ((Sum.inl a : Key) = Sum.inr b) = false := decide_eq_false (fun q => nomatch q)
theorem EZ (a : Str) (b : Int) : decide ((Sum.inr a : Key) = Sum.inl b) = false := decide_eq_false (fun q => nomatch q)
noncomputable def bO (prog : Program) (w : World) : PySem.KeyKind prog w Key where
  is := mw
  hash := Lg w
  inj := fun v a b ha hb => by
    rcases bX ha with ⟨i, t, rfl, rfl⟩ | ⟨x, t, rfl, rfl⟩
    · rcases bX hb with ⟨j, u, rfl, e⟩ | ⟨y, u, rfl, e⟩
      · injection e with e1 _; rw [e1]
      · exact nomatch e
    · rcases bX hb with ⟨j, u, rfl, e⟩ | ⟨y, u, rfl, e⟩
      · exact nomatch e
      · injection e with e1 _; rw [e1]
  byValue := fun k v h => by
    rcases bX h with ⟨i, t, rfl, rfl⟩ | ⟨x, t, rfl, rfl⟩ <;> rfl
  pyHash := fun hv h => by
    rcases bX hv with ⟨i, t, rfl, rfl⟩ | ⟨x, t, rfl, rfl⟩
    · exact wpAny_pyHash_int h
    · exact wpAny_pyHash_str h
  eqBool := fun hu hv h => by
    rcases bX hu with ⟨i, t, rfl, rfl⟩ | ⟨x, t, rfl, rfl⟩
    · rcases bX hv with ⟨j, u, rfl, rfl⟩ | ⟨y, u, rfl, rfl⟩
      · rw [EW] at h; exact wpAny_eqBool_int h
      · rw [EY] at h; exact SeqAt.EqAt.int_str i t y u _ _ _ _ h
    · rcases bX hv with ⟨j, u, rfl, rfl⟩ | ⟨y, u, rfl, rfl⟩
      · rw [EZ] at h; exact SeqAt.EqAt.str_int x t j u _ _ _ _ h
      · rw [EX] at h; exact wpAny_eqBool_str h
  «strs» := fun k x t v h => by
    rcases bX h with ⟨i, u, rfl, e⟩ | ⟨y, u, rfl, e⟩
    · exact nomatch e
    · injection e with e1 _
      subst e1
      cases v <;> rfl
theorem uD (prog : Program) (w : World) (i : Int) (t : Tok) : (bO prog w).is (.inl i) (.int i t) = true := xQ i t
theorem uE (prog : Program) (w : World) (x : Str) (t : Tok) : (bO prog w).is (.inr x) (.str x t) = true := xR x t
inductive V where
  | ao | bl (b : Bool) | int (i : Int) | str (x : Str) | iR (b : Array UInt8) | u0 (b : UInt64) | ref (a : Addr) | ty (n : String)
  deriving DecidableEq
noncomputable def RelV : V → Value → Prop
  | .ao, u => u = Value.none
  | .bl b, u => u = Value.bool b
  | .int i, u => ∃ t, u = Value.int i t
  | .str x, u => ∃ t, u = Value.str x t
  | .iR b, u => ∃ t, u = Value.bytes b t
  | .u0 b, u => ∃ t, u = Value.float b t
  | .ref a, u => u = Value.ref a
  | .ty n, u => u = Value.type n
noncomputable abbrev Vals : List V → List Value → Prop := Paired RelV
theorem Vals.length {xs : List V} {us : List Value} (r : Vals xs us) : xs.length = us.length := Paired.length r
theorem Vals.get : ∀ {xs : List V} {us : List Value} {i : Nat} {x : V}, Vals xs us → xs[i]? = some x → ∃ u, us[i]? = some u ∧ RelV x u
  | _, _, _, _, .nil, e => by simp at e
  | _, _, 0, _, .cons r _, e => by simp at e; subst e; exact ⟨_, rfl, r⟩
  | _, _, i + 1, x, .cons _ t, e => by
    obtain ⟨u, h1, h2⟩ := Vals.get (i := i) (x := x) t (by simpa using e)
    exact ⟨u, by simpa using h1, h2⟩
theorem Vals.set {x : V} {u : Value} (r : RelV x u) : ∀ {xs : List V} {us : List Value} (i : Nat), Vals xs us → Vals (xs.set i x) (us.set i u)
  | _, _, _, .nil => .nil
  | _, _, 0, .cons _ t => .cons r t
  | _, _, i + 1, .cons q t => .cons q (Vals.set r i t)
theorem Vals.append : ∀ {xs ys : List V} {us ws : List Value}, Vals xs us → Vals ys ws → Vals (xs ++ ys) (us ++ ws)
  | _, _, _, _, .nil, s => s
  | _, _, _, _, .cons r t, s => .cons r (Vals.append t s)
theorem Vals.take : ∀ {xs : List V} {us : List Value} (n : Nat), Vals xs us → Vals (xs.take n) (us.take n)
  | _, _, 0, _ => .nil
  | _, _, _ + 1, .nil => .nil
  | _, _, n + 1, .cons r t => .cons r (Vals.take n t)
theorem Vals.drop : ∀ {xs : List V} {us : List Value} (n : Nat), Vals xs us → Vals (xs.drop n) (us.drop n)
  | _, _, 0, r => r
  | _, _, _ + 1, .nil => .nil
  | _, _, n + 1, .cons _ t => Vals.drop n t
noncomputable def iS : Option V → Option Value → Prop
  | some v, some u => RelV v u
  | none, none => True
  | _, _ => False
noncomputable def KV {κ : Type} : List (κ × V) → List (κ × Value) → Prop := Paired fun (p : κ × V) (q : κ × Value) => p.1 = q.1 ∧ RelV p.2 q.2
noncomputable def kV : Key → V
  | .inl i => .int i
  | .inr x => .str x
inductive HO where
  | lst (xs : List V)
  | tup (xs : List V)
  | dK (aq : List (Key × V)) | dT (aq : List (List Key × V))
  | set (S : Int → Bool) (n : Nat)
  | ins (C dx : Addr) (fs : List (Str × V))
  | own (x : Addr)
  | xd (fs : List (Str × V))
  | met (f x : Addr)
  | rng (lo hi : Int)
  | bD (o : Obj) (u : HO)
  | cC (ps : Array Value)
  | lam (ps : Array Value)
  | ext (φ : Heap → Prop)
noncomputable abbrev Hp := Addr → Option HO
noncomputable def upd (H : Hp) (a : Addr) (o : HO) : Hp := fun b => if b = a then some o else H b
theorem ay {H : Hp} {a : Addr} {o : HO} : upd H a o a = some o := by unfold upd; rw [if_pos rfl]
theorem ae {H : Hp} {a b : Addr} {o : HO} (h : b ≠ a) : upd H a o b = H b := by unfold upd; rw [if_neg h]
theorem vU {H : Hp} {a b : Addr} {o u : HO} (h : H a = some o) (h' : H b = some u) (d : o ≠ u) : a ≠ b := by
  intro e; subst e; rw [h] at h'; exact d (Option.some.inj h')
theorem aT {H : Hp} {a b : Addr} {o : HO} (h : H a = some o) (h' : H b = none) : a ≠ b := by
  intro e; subst e; rw [h] at h'; cases h'
section
variable (P : Program) (w : World)
noncomputable def ka (h : Heap) (a : Addr) (items : Array Value) : Prop := ∃ o, h.get? a = some o ∧ o.cls = .type "tuple" ∧ ∃ n, o.data = .seq items n ∧ o.dict = none
theorem ka.tup {h : Heap} {a : Addr} {items : Array Value} (x : ka h a items) : IsTup h a items := let ⟨o, e, c, n, d, _⟩ := x; ⟨o, e, c, n, d⟩
theorem ka.lt {h : Heap} {a : Addr} {items : Array Value} (x : ka h a items) : a < h.objs.size := x.tup.lt
theorem ka.new (h : Heap) (items : Array Value) : ka (h.push { cls := .type "tuple", data := .seq items }) h.objs.size items := ⟨_, Heap.get?_push_size _ rfl, rfl, _, rfl, rfl⟩
noncomputable def ObjOk (H : Hp) (h : Heap) (a : Addr) : HO → Prop
  | .lst xs => xs.length ≤ sizeLine ∧ ∃ (its : List Value) (n : Nat), Vals xs its ∧ h.get? a = some { cls := .type "list", data := .seq its.toArray n }
  | .tup xs => xs.length ≤ sizeLine ∧ ∃ its : List Value, Vals xs its ∧ ka h a its.toArray
  | .dK aq => aq.length ≤ sizeLine ∧ (a == sysModules) = false ∧ ∃ vs, KV aq vs ∧ h.DictOf (bO P w) a vs
  | .dT aq => aq.length ≤ sizeLine ∧ (a == sysModules) = false ∧ ∃ xs : List (List Key × Addr × Value),
      Paired (fun (p : List Key × V) (q : List Key × Addr × Value) => p.1 = q.1 ∧ H q.2.1 = some (.tup (p.1.map kV)) ∧ RelV p.2 q.2.2) aq xs ∧
      ∃ o es ep, h.get? a = some o ∧ o.ExactDict ∧ o.data = .dict es ep ∧ es.toList = xs.map (entryOfKey (tupleKind (bO P w))) ∧ (xs.map (·.1)).Nodup
  | .set S n => h.SetOf (intKind P w) a S n
  | .ins C dx fs => H dx = some (.own a) ∧ fs.length ≤ 1000 ∧ dx ≠ a ∧ h.get? a = some (PySem.W.instObj C dx) ∧
      ∃ mA, h.Ns1 dx mA ∧ (∀ f, iS (fs.lookup f) (mA f)) ∧ PySem.Within mA (fs.map (·.1))
  | .own _ => ∃ o, h.get? a = some o
  | .xd fs => ∃ mA, h.Ns1 a mA ∧ ∀ f, iS (fs.lookup f) (mA f)
  | .rng lo hi => ∃ t u v, h.get? a = some { cls := .type "range", data := .fields #[.int lo t, .int hi u, .int 1 v] }
  | .bD o u => h.get? a = some o ∧ ObjOk H h a u
  | .cC ps => h.get? a = some { cls := .none, data := .fields ps }
  | .lam ps => h.get? a = some { cls := .none, data := .fields ps }
  | .met f x => h.get? a = some (PySem.W.methodObj (.ref f) (.ref x))
  | .ext φ => φ h ∧ (∃ o, h.get? a = some o) ∧ ∀ h1 h2 : Heap, φ h1 → (∀ o, h1.get? a = some o → h2.get? a = some o) → φ h2
noncomputable def cp (H : Hp) (h : Heap) : Prop := ∀ a o, H a = some o → ObjOk P w H h a o
end
section
variable {P : Program} {w : World} {H H' : Hp} {h h' : Heap} {a : Addr} {o : HO}
theorem ObjOk.lt (x : ObjOk P w H h a o) : a < h.objs.size := by
  cases o with
  | lst xs => obtain ⟨_, _, _, _, e⟩ := x; exact Heap.lt_size e
  | tup xs => obtain ⟨_, _, _, p⟩ := x; exact p.lt
  | dK aq => obtain ⟨_, _, _, _, o, _, _, e, _⟩ := x; exact Heap.lt_size e
  | dT aq => obtain ⟨_, _, _, _, o, _, _, e, _⟩ := x; exact Heap.lt_size e
  | set S n => obtain ⟨o, _, _, _, e, _⟩ := x; exact Heap.lt_size e
  | ins C dx fs => obtain ⟨_, _, _, e, _⟩ := x; exact Heap.lt_size e
  | own y => obtain ⟨_, e⟩ := x; exact Heap.lt_size e
  | xd fs => obtain ⟨_, ⟨_, _, _, e, _⟩, _⟩ := x; exact Heap.lt_size e
  | rng lo hi => obtain ⟨_, _, _, e⟩ := x; exact Heap.lt_size e
  | bD ob u => obtain ⟨e, _⟩ := x; exact Heap.lt_size e
  | cC ps => exact Heap.lt_size (show h.get? a = some _ from x)
  | lam ps => exact Heap.lt_size (show h.get? a = some _ from x)
  | met f y => exact Heap.lt_size (show h.get? a = some _ from x)
  | ext φ => obtain ⟨_, ⟨_, e⟩, _⟩ := x; exact Heap.lt_size e
theorem Paired.AB {α β : Type} {F G : α → β → Prop} : ∀ {E1 : List α} {E2 : List β}, Paired F E1 E2 → (∀ a b, F a b → G a b) → Paired G E1 E2
  | _, _, .nil, _ => .nil
  | _, _, .cons r t, f => .cons (f _ _ r) (Paired.AB t f)
theorem ObjOk.bT (x : ObjOk P w H h a o) (k : ∀ b u, (b = a ∨ H b = some (.own a)) → h.get? b = some u → h'.get? b = some u)
    (ho : ∀ b, H b = some (.own a) → H' b = some (.own a)) (ht : ∀ b xs, H b = some (.tup xs) → H' b = some (.tup xs)) : ObjOk P w H' h' a o := by
  induction o with
  | lst xs => obtain ⟨z, its, n, r, e⟩ := x; exact ⟨z, its, n, r, k _ _ (.inl rfl) e⟩
  | tup xs => obtain ⟨z, its, r, ob, e, c⟩ := x; exact ⟨z, its, r, ob, k _ _ (.inl rfl) e, c⟩
  | dK aq => obtain ⟨z, y, vs, r, ob, es, ep, e, c⟩ := x; exact ⟨z, y, vs, r, ob, es, ep, k _ _ (.inl rfl) e, c⟩
  | dT aq =>
    obtain ⟨z, y, xs, r, ob, es, ep, e, c⟩ := x
    exact ⟨z, y, xs, Paired.AB r fun p q z => ⟨z.1, ht _ _ z.2.1, z.2.2⟩, ob, es, ep, k _ _ (.inl rfl) e, c⟩
  | set S n => obtain ⟨ob, es, ep, t, e, c⟩ := x; exact ⟨ob, es, ep, t, k _ _ (.inl rfl) e, c⟩
  | ins C dx fs =>
    obtain ⟨d, z, ne, e, mA, ⟨od, es, ep, e2, c⟩, r⟩ := x
    exact ⟨ho _ d, z, ne, k _ _ (.inl rfl) e, mA, ⟨od, es, ep, k _ _ (.inr d) e2, c⟩, r⟩
  | own y => obtain ⟨ob, e⟩ := x; exact ⟨ob, k _ _ (.inl rfl) e⟩
  | xd fs => obtain ⟨mA, ⟨od, es, ep, e, c⟩, r⟩ := x; exact ⟨mA, ⟨od, es, ep, k _ _ (.inl rfl) e, c⟩, r⟩
  | rng lo hi => obtain ⟨t, u, v, e⟩ := x; exact ⟨t, u, v, k _ _ (.inl rfl) e⟩
  | bD ob u ih => obtain ⟨e, q⟩ := x; exact ⟨k _ _ (.inl rfl) e, ih q⟩
  | cC ps =>
    have e : h.get? a = some { cls := .none, data := .fields ps } := x
    show h'.get? a = some { cls := .none, data := .fields ps }
    exact k a _ (.inl rfl) e
  | lam ps =>
    have e : h.get? a = some { cls := .none, data := .fields ps } := x
    show h'.get? a = some { cls := .none, data := .fields ps }
    exact k a _ (.inl rfl) e
  | met f y =>
    have e : h.get? a = some (PySem.W.methodObj (.ref f) (.ref y)) := x
    show h'.get? a = some (PySem.W.methodObj (.ref f) (.ref y))
    exact k a _ (.inl rfl) e
  | ext φ => obtain ⟨p, ⟨o, e⟩, st⟩ := x; exact ⟨st _ _ p fun o q => k _ _ (.inl rfl) q, ⟨o, k _ _ (.inl rfl) e⟩, st⟩
theorem cp.lt (x : cp P w H h) (e : H a = some o) : a < h.objs.size := (x a o e).lt
theorem cp.fresh (x : cp P w H h) (e : h.objs.size ≤ a) : H a = none := by
  cases q : H a with
  | none => rfl
  | some u => exact absurd (Nat.lt_of_lt_of_le (x.lt q) e) (Nat.lt_irrefl _)
theorem cp.kept (x : cp P w H h) (k : ∀ b u, h.get? b = some u → h'.get? b = some u) : cp P w H h' := fun a o e =>
  (x a o e).bT (fun b u _ q => k b u q) (fun _ q => q) fun _ _ q => q
theorem cp.laid (x : cp P w H h) (k : ∀ b u, h.get? b = some u → h'.get? b = some u) (hp : h.objs.size ≤ a) (new : ObjOk P w (upd H a o) h' a o) : cp P w (upd H a o) h' := fun b u e => by
  have hn := x.fresh hp
  by_cases hb : b = a
  · subst hb; rw [ay] at e; cases e; exact new
  · rw [ae hb] at e
    exact (x b u e).bT (fun c v _ q => k c v q) (fun c q => by rw [ae (aT q hn)]; exact q) fun c xs q => by rw [ae (aT q hn)]; exact q
end
noncomputable def Rd (H : Hp) (a : Addr) (u : HO) : Prop := H a = some u ∨ ∃ o, H a = some (.bD o u)
theorem Rd.ok {P : Program} {w : World} {H : Hp} {h : Heap} {a : Addr} {u : HO} (r : Rd H a u) (x : cp P w H h) : ObjOk P w H h a u := by
  rcases r with r | ⟨o, r⟩
  · exact x a u r
  · obtain ⟨_, q⟩ := x a _ r
    exact q
noncomputable def xS : Option HO → Prop
  | some (.lst _) => True
  | some (.dK _) => True
  | some (.dT _) => True
  | some (.set _ _) => True
  | some (.ins _ _ _) => True
  | some (.ext _) => True
  | some (.lam _) => True
  | _ => False
section
variable {P : Program} {w : World} {H : Hp} {h h' : Heap} {x e : Addr} {o' : HO}
theorem cp.write (ok : cp P w H h) (mu : xS (H x)) (he : e = x ∨ H e = some (.own x)) (k : ∀ b u, b ≠ e → h.get? b = some u → h'.get? b = some u) (u5 : ∃ u, h'.get? e = some u)
    (new : ObjOk P w (upd H x o') h' x o') : cp P w (upd H x o') h' := fun b u q => by
  have E3 : ∀ c y, H c = some (.own y) → c ≠ x := fun c y r z => by subst z; rw [r] at mu; exact mu
  have Lh : ∀ c xs, H c = some (.tup xs) → c ≠ x := fun c xs r z => by subst z; rw [r] at mu; exact mu
  by_cases hb : b = x
  · subst hb; rw [ay] at q; cases q; exact new
  · rw [ae hb] at q
    by_cases rY : b = e
    · have q' : H b = some (.own x) := by
        rcases he with z | z
        · exact absurd (rY.trans z) hb
        · rw [rY]; exact z
      rw [q] at q'; cases q'
      obtain ⟨v, hv⟩ := u5
      exact ⟨v, by rw [rY]; exact hv⟩
    · refine (ok b u q).bT (fun c v hc r => k c v ?_ r) (fun c r => by rw [ae (E3 c b r)]; exact r) fun c xs r => by rw [ae (Lh c xs r)]; exact r
      rcases hc with rfl | hc
      · exact rY
      · rintro rfl
        rcases he with z | z
        · exact E3 c b hc z
        · rw [hc] at z; cases z; exact hb rfl
end
structure Un (fs ex : List Addr) (H H' : Hp) (h h' : Heap) : Prop where
  keep : ∀ b o, h.get? b = some o → H b = none → b ∉ fs → b ∉ ex → h'.get? b = some o
  slot : ∀ b o, h.get? b = some o → H b = none → b ∈ fs → b ∉ ex → ∃ sl, h'.get? b = some { o with slots := sl }
  free : ∀ b o, h.get? b = some o → H b = none → b ∉ ex → H' b = none
  there : ∀ b o, h.get? b = some o → b ∉ ex → ∃ o', h'.get? b = some o'
  tups : ∀ b xs, H b = some (.tup xs) → H' b = some (.tup xs)
  frzs : ∀ b o u, H b = some (.bD o u) → H' b = some (.bD o u)
  tbls : ∀ b ps, H b = some (.cC ps) → ∃ more, H' b = some (.cC (ps ++ more))
section
variable {fs MM ex Pl : List Addr} {H H1 H2 : Hp} {h h1 h2 h' : Heap} {a x e : Addr} {o : HO}
theorem Un.any (u : Un fs ex H H1 h h1) {b : Addr} {ob : Obj} (q : h.get? b = some ob) (n : H b = none) (hx : b ∉ ex) : ∃ sl, h1.get? b = some { ob with slots := sl } := by
  by_cases hb : b ∈ fs
  · exact u.slot b ob q n hb hx
  · exact ⟨ob.slots, u.keep b ob q n hb hx⟩
theorem Un.kept (k : ∀ b u, h.get? b = some u → h'.get? b = some u) : Un fs ex H H h h' :=
  ⟨fun b ob q _ _ _ => k b ob q, fun b ob q _ _ _ => ⟨ob.slots, k b ob q⟩, fun _ _ _ n _ => n, fun b ob q _ => ⟨ob, k b ob q⟩, fun _ _ q => q, fun _ _ _ q => q, fun _ ps q => ⟨#[], by rw [q]; simp⟩⟩
theorem Un.refl : Un fs ex H H h h := Un.kept fun _ _ q => q
theorem Un.laid (k : ∀ b u, h.get? b = some u → h'.get? b = some u) (hp : h.objs.size ≤ a) (hn : H a = none) : Un fs ex H (upd H a o) h h' where
  keep := fun b u q _ _ _ => k b u q
  slot := fun b u q _ _ _ => ⟨u.slots, k b u q⟩
  free := fun b u q n _ => by rw [ae (Nat.ne_of_lt (Nat.lt_of_lt_of_le (Heap.lt_size q) hp))]; exact n
  there := fun b u q _ => ⟨u, k b u q⟩
  tups := fun b xs q => by rw [ae (aT q hn)]; exact q
  frzs := fun b u xs q => by rw [ae (aT q hn)]; exact q
  tbls := fun b ps q => ⟨#[], by rw [ae (aT q hn), q]; simp⟩
theorem Un.write (mu : xS (H x)) (he : e = x ∨ H e = some (.own x)) (k : ∀ b u, b ≠ e → h.get? b = some u → h'.get? b = some u) (u5 : ∃ u, h'.get? e = some u) : Un fs ex H (upd H x o) h h' := by
  have hx : ∀ b, H b = none → b ≠ x := fun b n z => by subst z; rw [n] at mu; exact mu
  have hb : ∀ b, H b = none → b ≠ e := fun b n z => by
    subst z
    rcases he with r | r
    · exact hx b n r
    · rw [n] at r; cases r
  have hm : ∀ b u, H b = some u → ¬ xS (some u) → b ≠ x := fun b u q nm z => by subst z; rw [q] at mu; exact nm mu
  refine ⟨fun b u q n _ _ => k b u (hb b n) q, fun b u q n _ _ => ⟨u.slots, k b u (hb b n) q⟩, fun b u q n _ => by rw [ae (hx b n)]; exact n, fun b u q _ => ?_,
    fun b xs q => by rw [ae (hm b _ q fun z => z)]; exact q, fun b u xs q => by rw [ae (hm b _ q fun z => z)]; exact q, fun b ps q => ⟨#[], by rw [ae (hm b _ q fun z => z), q]; simp⟩⟩
  by_cases rY : b = e
  · subst rY; exact u5
  · exact ⟨u, k b u rY q⟩
end
noncomputable def Cq (h : Heap) (H : Hp) : List Addr := (List.range h.objs.size).filter fun a => (H a).isSome
noncomputable def iT (h : Heap) (H : Hp) : Heap := PySem.W.hideAll h (Cq h H)
theorem xT (h : Heap) (H : Hp) : (iT h H).objs.size = h.objs.size := PySem.W.hideAll_size _ _
theorem AD {h : Heap} {H : Hp} {b : Addr} {o : Obj} (e : h.get? b = some o) (n : H b = none) : (iT h H).get? b = some o :=
  PySem.W.hideAll_get _ e fun hm => by
    have q : (H b).isSome = true := (List.mem_filter.mp hm).2
    rw [n] at q; simp at q
theorem Dq {h : Heap} {H : Hp} {b : Addr} {o : Obj} (e : (iT h H).get? b = some o) : h.get? b = some o ∧ H b = none := by
  have e' : h.get? b = some o := PySem.W.of_hideAll (Cq h H) e
  refine ⟨e', ?_⟩
  cases q : H b with
  | none => rfl
  | some x =>
    have hm : b ∈ Cq h H := List.mem_filter.mpr ⟨List.mem_range.mpr (Heap.lt_size e'), by simp [q]⟩
    have z : (iT h H).get? b = none := PySem.W.hideAll_none (Cq h H) hm
    rw [z] at e; cases e
noncomputable def Dr (g h : Heap) (L : Addr) : List (Addr × Obj) := (List.range h.objs.size).filterMap fun a => if a = L ∨ (g.get? a).isSome = true then none else (h.get? a).map fun o => (a, o)
noncomputable def rest (g h : Heap) (L d : Addr) : List (Addr × Obj) := (Dr g h L).filter fun p => decide (p.1 ≠ d)
structure Mod (K : PySem.W.Frag) (mg : Str → Option Value) (base : Heap) : Prop where
  kin : K.In base
  glob : base.Ns mainGlobals mg
  blt : ∃ mb, base.Ns builtinsNs mb ∧ ∀ x : Str, x ≠ "__name__" → mb x = bootBuiltins x
  nolimit : base.NoLimit
structure Cx where
  prog : Program
  w : World
  K : PySem.W.Frag
  mg : Str → Option Value
  base : Heap
  A : Around
  N : List Str
  s₀ : Shared
  H₀ : Hp
  env : Env
  outer : List Env
  stack : List Env
  ex : List Addr
  fn : Str → Bool
  calm : Bool
  pn : List (Addr × Obj)
  xe : Value → Shared → Prop
noncomputable def dO (l : List Env) : List Addr := l.filterMap (·.frame)
noncomputable abbrev Cx.fs (X : Cx) : List Addr := dO X.outer
noncomputable def mU (sc : Scope) (x : Str) : Prop := sc.names.lookup x = some .local ∨ sc.names.lookup x = some .cell ∨ sc.names.lookup x = some .free
noncomputable def Loc (sc : Scope) (x : Str) : Prop := sc.names.lookup x = some .local ∨ sc.names.lookup x = some .cell
noncomputable def Look (env : Env) (h : Heap) (m : Str → Option Value) (x : Str) (u : Value) : Prop :=
  (env.kindOf x = some .local ∧ m x = some u) ∨ ((env.kindOf x = some .cell ∨ env.kindOf x = some .free) ∧ ∃ c, env.cells.lookup x = some c ∧ h.IsCell c (some u))
structure Cx.Ok (X : Cx) : Prop where
  mod : Mod X.K X.mg X.base
  kind : X.env.scope.kind = .function
  glob : X.env.globals = mainGlobals
  blt : X.env.builtins = builtinsNs
  above : X.s₀.heap.objs.size ≤ X.env.locals
  inj : ∀ x y c, X.env.cells.lookup x = some c → X.env.cells.lookup y = some c → x = y
  has : ∀ x, (X.env.kindOf x = some .cell ∨ X.env.kindOf x = some .free) → ∃ c, X.env.cells.lookup x = some c
  cab : ∀ x c, X.fn x = true → X.env.cells.lookup x = some c → X.s₀.heap.objs.size ≤ c
  hd : X.calm = true → X.A.handled = none
  frames : X.A.frames = some X.stack
  stk : X.stack = X.outer ∨ (X.stack = X.env :: X.outer ∧ X.env.frame = some X.env.locals)
  exf : ∀ b ∈ X.ex, b ≠ X.env.locals ∧ ∀ x c, X.env.cells.lookup x = some c → c ≠ b
  bs : ∀ b o, X.base.get? b = some o → X.s₀.heap.get? b = some o ∧ X.H₀ b = none
  bsz : X.base.objs.size ≤ X.s₀.heap.objs.size
  noex : ∀ b o, X.base.get? b = some o → b ∉ X.ex
  exfs : ∀ b ∈ X.ex, b ∉ X.fs
  funs : X.s₀.heap.FunFrames X.base X.outer
  frf : ∀ b ∈ X.fs, X.H₀ b = none
noncomputable def Gn (n : Nat) (g : Array GenState) : Prop := AllBare g ∧ n ≤ g.size
theorem Gn.self {n : Nat} {g : Array GenState} (x : Gn n g) : Gn g.size g := ⟨x.1, Nat.le_refl _⟩
theorem Gn.trans {n : Nat} {g g' : Array GenState} (x : Gn n g) (y : Gn g.size g') : Gn n g' := ⟨y.1, Nat.le_trans x.2 y.2⟩
structure Inv (X : Cx) (pins : List (Addr × Obj)) (σ : List (Option V)) (H : Hp) (s : Shared) : Prop where
  ok : X.Ok
  os : s.os = X.s₀.os
  bare : Gn X.s₀.gens.size s.gens
  base : Un X.fs X.ex X.H₀ H X.s₀.heap s.heap
  loc : ∃ m, s.heap.Ns X.env.locals m ∧ ∀ (i : Nat) (x : Str) (v : V), X.N[i]? = some x → σ[i]? = some (some v) → mU X.env.scope x → ∃ u, RelV v u ∧ Look X.env s.heap m x u
  cell : ∀ x c, X.env.cells.lookup x = some c → ∃ v, s.heap.IsCell c v
  free : H X.env.locals = none
  freeC : ∀ x c, X.env.cells.lookup x = some c → H c = none
  pin : ∀ p ∈ X.pn ++ pins, s.heap.get? p.1 = some p.2 ∧ H p.1 = none ∧ p.1 ≠ X.env.locals ∧ p.1 ∉ X.fs ∧ ∀ v, p.2.data ≠ .cell v
  hok : cp X.prog X.w H s.heap
  len : σ.length = X.N.length
section
variable {X : Cx} {pins : List (Addr × Obj)} {σ : List (Option V)} {H H' : Hp} {s : Shared} {h' : Heap}
theorem Cx.Ok.Li (ok : X.Ok) {b : Addr} {o : Obj} (e : X.base.get? b = some o) : b ∉ X.fs := fun hb => by
  have := (ok.funs.mem hb).1
  rw [e] at this; cases this
theorem Inv.bs (I : Inv X pins σ H s) : ∀ b o, X.base.get? b = some o → s.heap.get? b = some o ∧ H b = none := fun b o e =>
  ⟨I.base.keep b o (I.ok.bs b o e).1 (I.ok.bs b o e).2 (I.ok.Li e) (I.ok.noex b o e), I.base.free b o (I.ok.bs b o e).1 (I.ok.bs b o e).2 (I.ok.noex b o e)⟩
theorem Inv.bk (I : Inv X pins σ H s) : ∀ b o, X.base.get? b = some o → s.heap.get? b = some o := fun b o e => (I.bs b o e).1
theorem Inv.mod (I : Inv X pins σ H s) : Mod X.K X.mg X.base := I.ok.mod
theorem Inv.fZ (I : Inv X pins σ H s) : X.K.In s.heap := I.ok.mod.kin.keeps I.bk
theorem Inv.nolimit (I : Inv X pins σ H s) : s.heap.NoLimit := I.ok.mod.nolimit.keeps I.bk
theorem Inv.lt (I : Inv X pins σ H s) : X.env.locals < s.heap.objs.size := let ⟨_, hn, _⟩ := I.loc; hn.lt
theorem Inv.sz (I : Inv X pins σ H s) : X.s₀.heap.objs.size ≤ s.heap.objs.size := Nat.le_trans I.ok.above (Nat.le_of_lt I.lt)
theorem Inv.E4 (I : Inv X pins σ H s) {a : Addr} (h : s.heap.objs.size ≤ a) : a ∉ X.fs := fun hb => by
  obtain ⟨_, o, ho, _⟩ := I.ok.funs.mem hb
  exact absurd (Nat.lt_of_lt_of_le (Heap.lt_size ho) (Nat.le_trans I.sz h)) (Nat.lt_irrefl _)
theorem Inv.ql (I : Inv X pins σ H s) : ∀ x c, X.env.cells.lookup x = some c → c ≠ X.env.locals := fun x c e z => by
  obtain ⟨v, o, ho, hd⟩ := I.cell x c e
  obtain ⟨m, ⟨o', es, ep, gB, ju, _⟩, _⟩ := I.loc
  rw [z, gB] at ho; cases ho; rw [ju] at hd; cases hd
theorem Inv.funs (I : Inv X pins σ H s) : s.heap.FunFrames X.base X.outer := by
  have all : ∀ (l : List Env), (∀ b ∈ dO l, b ∈ X.fs) → X.s₀.heap.FunFrames X.base l → s.heap.FunFrames X.base l := by
    intro l
    induction l with
    | nil => intro _ _; trivial
    | cons env r ih =>
      intro hs hl
      obtain ⟨hk, ⟨L, o, hf, hn, ho, hd⟩, hr⟩ := hl
      have hL : L ∈ X.fs := hs L (by unfold dO; rw [List.filterMap_cons, hf]; exact List.mem_cons_self)
      obtain ⟨sl, e⟩ := I.base.slot L o ho (I.ok.frf L hL) hL fun z => I.ok.exfs L z hL
      exact ⟨hk, ⟨L, _, hf, hn, e, hd⟩, ih (fun b hb => hs b (by unfold dO; rw [List.filterMap_cons, hf]; exact List.mem_cons_of_mem _ hb)) hr⟩
  exact all X.outer (fun _ hb => hb) I.ok.funs
theorem Inv.stack (I : Inv X pins σ H s) : s.heap.FunFrames X.base X.stack := by
  rcases I.ok.stk with e | ⟨e, hf⟩
  · rw [e]; exact I.funs
  · rw [e]
    obtain ⟨m, hn, _⟩ := I.loc
    refine .cons (by rw [I.ok.kind]; decide) hf hn ?_ I.funs
    exact Heap.get?_none_of_le (Nat.le_trans I.ok.bsz I.ok.above)
theorem Inv.eC (I : Inv X pins σ H s) : ∀ b ∈ dO X.stack, b ∈ X.env.locals :: X.fs := fun b hb => by
  rcases I.ok.stk with e | ⟨e, hf⟩
  · rw [e] at hb; exact List.mem_cons_of_mem _ hb
  · rw [e] at hb
    unfold dO at hb
    rw [List.filterMap_cons, hf] at hb
    exact hb
theorem Inv.jT (I : Inv X pins σ H s) : ∀ b ∈ dO X.stack, H b = none := fun b hb => by
  rcases List.mem_cons.mp (I.eC b hb) with e | hb
  · rw [e]; exact I.free
  · obtain ⟨_, o, ho, _⟩ := I.ok.funs.mem hb
    exact I.base.free b o ho (I.ok.frf b hb) fun z => I.ok.exfs b z hb
theorem Inv.step {g' : Array GenState} {t' : Nat} {d' : Drawn} {ch : List Addr} (I : Inv X pins σ H s)
    (mV : ∀ b ∈ ch, (b ∈ X.ex ∨ X.s₀.heap.objs.size ≤ b) ∧ b ≠ X.env.locals ∧ (∀ x c, X.env.cells.lookup x = some c → c ≠ b) ∧ ∀ p ∈ X.pn ++ pins, p.1 ≠ b)
    (keep : ∀ b o, b ≠ X.env.locals → b ∉ X.fs → b ∉ ch → s.heap.get? b = some o → H b = none → h'.get? b = some o)
    (slot : ∀ b o, b ≠ X.env.locals → b ∈ X.fs → b ∉ ch → s.heap.get? b = some o → H b = none → ∃ sl, h'.get? b = some { o with slots := sl }) (free : ∀ b o, b ∉ ch → s.heap.get? b = some o → H b = none → H' b = none)
    (there : ∀ b o, b ∉ ch → s.heap.get? b = some o → ∃ o', h'.get? b = some o')
    (tups : ∀ b xs, H b = some (.tup xs) → H' b = some (.tup xs)) (frzs : ∀ b o u, H b = some (.bD o u) → H' b = some (.bD o u)) (tbls : ∀ b ps, H b = some (.cC ps) → ∃ more, H' b = some (.cC (ps ++ more)))
    (ns : ∀ m, s.heap.Ns X.env.locals m → h'.Ns X.env.locals m) (hok : cp X.prog X.w H' h') (hg : Gn s.gens.size g') :
    Inv X pins σ H' { s with heap := h', gens := g', drawn := d', toks := t' } := by
  have J1 : ∀ b o, X.s₀.heap.get? b = some o → b ≠ X.env.locals := fun b o e => Nat.ne_of_lt (Nat.lt_of_lt_of_le (Heap.lt_size e) I.ok.above)
  have Cr : ∀ b o, X.s₀.heap.get? b = some o → b ∉ X.ex → b ∉ ch := fun b o e hx hb => by
    rcases (mV b hb).1 with z | z
    · exact hx z
    · exact absurd (Nat.lt_of_lt_of_le (Heap.lt_size e) z) (Nat.lt_irrefl _)
  have cellK : ∀ x c, X.env.cells.lookup x = some c → ∀ v, s.heap.IsCell c v → h'.IsCell c v := fun x c e v ⟨o, ho, hd⟩ => by
    have xU : c ∉ ch := fun z => (mV c z).2.2.1 x c e rfl
    by_cases hc : c ∈ X.fs
    · obtain ⟨sl, q⟩ := slot c o (I.ql x c e) hc xU ho (I.freeC x c e)
      exact ⟨_, q, hd⟩
    · exact ⟨o, keep c o (I.ql x c e) hc xU ho (I.freeC x c e), hd⟩
  refine ⟨I.ok, I.os, I.bare.trans hg, ⟨fun b o e n hb hx => ?_, fun b o e n hb hx => ?_, fun b o e n hx => ?_, fun b o e hx => ?_, fun b xs e => tups b xs (I.base.tups b xs e), fun b o xs e => frzs b o xs (I.base.frzs b o xs e), fun b ps e => ?_⟩, ?_, fun x c e => ?_, ?_, fun x c e => ?_, fun p hp => ?_, hok, I.len⟩
  · exact keep b o (J1 b o e) hb (Cr b o e hx) (I.base.keep b o e n hb hx) (I.base.free b o e n hx)
  · obtain ⟨sl, e1⟩ := I.base.slot b o e n hb hx
    obtain ⟨J4, e2⟩ := slot b _ (J1 b o e) hb (Cr b o e hx) e1 (I.base.free b o e n hx)
    exact ⟨J4, e2⟩
  · obtain ⟨o', e1⟩ := I.base.there b o e hx
    exact free b o' (Cr b o e hx) e1 (I.base.free b o e n hx)
  · obtain ⟨o', e1⟩ := I.base.there b o e hx
    exact there b o' (Cr b o e hx) e1
  · obtain ⟨m1, e1⟩ := I.base.tbls b ps e
    obtain ⟨m2, e2⟩ := tbls b _ e1
    exact ⟨m1 ++ m2, by rw [e2, Array.append_assoc]⟩
  · obtain ⟨m, hn, hl⟩ := I.loc
    refine ⟨m, ns m hn, fun i x v e1 e2 e3 => ?_⟩
    obtain ⟨u, r, l⟩ := hl i x v e1 e2 e3
    refine ⟨u, r, ?_⟩
    rcases l with l | ⟨k, c, e, z⟩
    · exact .inl l
    · exact .inr ⟨k, c, e, cellK x c e _ z⟩
  · obtain ⟨v, z⟩ := I.cell x c e
    exact ⟨v, cellK x c e v z⟩
  · obtain ⟨m, ⟨o, _, _, ho, _⟩, _⟩ := I.loc
    exact free _ o (fun z => (mV _ z).2.1 rfl) ho I.free
  · obtain ⟨v, o, ho, hd⟩ := I.cell x c e
    exact free c o (fun z => (mV c z).2.2.1 x c e rfl) ho (I.freeC x c e)
  · obtain ⟨e, n, ne, nf, d⟩ := I.pin p hp
    have xU : p.1 ∉ ch := fun z => (mV p.1 z).2.2.2 p hp rfl
    exact ⟨keep p.1 p.2 ne nf xU e n, free p.1 p.2 xU e n, ne, nf, d⟩
theorem Inv.un {t' : Nat} (I : Inv X pins σ H s) (u : Un X.fs [] H H' s.heap h') (hok : cp X.prog X.w H' h') : Inv X pins σ H' { s with heap := h', toks := t' } := by
  obtain ⟨m, ⟨o, es, ep, ho, r⟩, _⟩ := id I.loc
  obtain ⟨sl, hL⟩ := u.any ho I.free (by simp)
  exact I.step (g' := s.gens) (d' := s.drawn) (ch := []) (fun _ z => nomatch z) (fun b o _ hb _ e n => u.keep b o e n hb (by simp)) (fun b o _ hb _ e n => u.slot b o e n hb (by simp)) (fun b o _ e n => u.free b o e n (by simp)) (fun b o _ e => u.there b o e (by simp)) u.tups u.frzs u.tbls (fun m' hm => by
    obtain ⟨o', g5, E5, gB, r'⟩ := hm
    rw [ho] at gB; cases gB
    exact ⟨_, g5, E5, hL, r'⟩) hok I.bare.self
theorem Inv.call {g' : Array GenState} {t' : Nat} {d' : Drawn} {ch : List Addr} (I : Inv X pins σ H s) (u : Un (dO X.stack) ch H H' s.heap h') (hok : cp X.prog X.w H' h') (hg : Gn s.gens.size g')
    (mV : ∀ b ∈ ch, (b ∈ X.ex ∨ X.s₀.heap.objs.size ≤ b) ∧ b ≠ X.env.locals ∧ (∀ x c, X.env.cells.lookup x = some c → c ≠ b) ∧ ∀ p ∈ X.pn ++ pins, p.1 ≠ b) :
    Inv X pins σ H' { s with heap := h', gens := g', drawn := d', toks := t' } := by
  obtain ⟨m, ⟨o, es, ep, ho, r⟩, _⟩ := id I.loc
  obtain ⟨sl, hL⟩ := u.any ho I.free fun z => (mV _ z).2.1 rfl
  exact I.step (ch := ch) mV (fun b o hL hb hc e n => u.keep b o e n (fun z => (List.mem_cons.mp (I.eC b z)).elim hL hb) hc) (fun b o _ _ hc e n => u.any e n hc) (fun b o hc e n => u.free b o e n hc) (fun b o hc e => u.there b o e hc) u.tups u.frzs u.tbls (fun m' hm => by
    obtain ⟨o', g5, E5, gB, r'⟩ := hm
    rw [ho] at gB; cases gB
    exact ⟨_, g5, E5, hL, r'⟩) hok hg
theorem Inv.turned {t' : Nat} {it : Addr} (I : Inv X pins σ H s) (k : ∀ b o, b ≠ it → s.heap.get? b = some o → h'.get? b = some o) (hn : H it = none) (hL : it ≠ X.env.locals)
    (h1 : it ∈ X.ex ∨ X.s₀.heap.objs.size ≤ it) (h2 : ∀ x c, X.env.cells.lookup x = some c → c ≠ it) (h3 : ∀ p ∈ X.pn ++ pins, p.1 ≠ it) : Inv X pins σ H { s with heap := h', toks := t' } := by
  have xV : ∀ b u, H b = some u → b ≠ it := fun b u e z => by rw [z, hn] at e; cases e
  refine I.step (g' := s.gens) (d' := s.drawn) (ch := [it]) (fun b hb => ?_) (fun b o _ _ hc e _ => k b o (fun z => hc (by simp [z])) e) (fun b o _ _ hc e _ => ⟨o.slots, k b o (fun z => hc (by simp [z])) e⟩) (fun _ _ _ _ n => n)
    (fun b o hc e => ⟨o, k b o (fun z => hc (by simp [z])) e⟩) (fun _ _ e => e) (fun _ _ _ e => e) (fun b ps e => ⟨#[], by rw [e]; simp⟩) (fun m hm => ?_) (fun b u e => ?_) I.bare.self
  · have e : b = it := by simpa using hb
    subst e
    exact ⟨h1, hL, h2, h3⟩
  · obtain ⟨o, es, ep, ho, r⟩ := hm
    exact ⟨o, es, ep, k _ o (Ne.symm hL) ho, r⟩
  · refine (I.hok b u e).bT (fun c v hc q => k c v ?_ q) (fun _ q => q) fun _ _ q => q
    rcases hc with z | z
    · rw [z]; exact xV b u e
    · exact xV c _ z
theorem Inv.tok (I : Inv X pins σ H s) (t : Nat) : Inv X pins σ H { s with toks := t } := I.un (h' := s.heap) (t' := t) Un.refl I.hok
theorem Inv.kept {t' : Nat} (I : Inv X pins σ H s) (k : ∀ b u, s.heap.get? b = some u → h'.get? b = some u) : Inv X pins σ H { s with heap := h', toks := t' } := I.un (Un.kept k) (I.hok.kept k)
theorem Inv.laid {a : Addr} {o : HO} {t' : Nat} (I : Inv X pins σ H s) (k : ∀ b u, s.heap.get? b = some u → h'.get? b = some u) (hp : s.heap.objs.size ≤ a) (new : ObjOk X.prog X.w (upd H a o) h' a o) :
    Inv X pins σ (upd H a o) { s with heap := h', toks := t' } := I.un (Un.laid k hp (I.hok.fresh hp)) (I.hok.laid k hp new)
theorem Inv.write {x e : Addr} {o : HO} {t' : Nat} (I : Inv X pins σ H s) (mu : xS (H x)) (he : e = x ∨ H e = some (.own x)) (k : ∀ b u, b ≠ e → s.heap.get? b = some u → h'.get? b = some u) (u5 : ∃ u, h'.get? e = some u)
    (new : ObjOk X.prog X.w (upd H x o) h' x o) : Inv X pins σ (upd H x o) { s with heap := h', toks := t' } := I.un (Un.write mu he k u5) (I.hok.write mu he k u5 new)
theorem Inv.pF {pins' : List (Addr × Obj)} (I : Inv X pins σ H s) (h : ∀ p ∈ pins', s.heap.get? p.1 = some p.2 ∧ H p.1 = none ∧ p.1 ≠ X.env.locals ∧ p.1 ∉ X.fs ∧ ∀ v, p.2.data ≠ .cell v) : Inv X pins' σ H s :=
  ⟨I.ok, I.os, I.bare, I.base, I.loc, I.cell, I.free, I.freeC, fun p hp => (List.mem_append.mp hp).elim (fun z => I.pin p (List.mem_append_left _ z)) (h p), I.hok, I.len⟩
theorem rZ {N : List Str} (hN : N.Nodup) {i j : Nat} {x : Str} (a : N[i]? = some x) (b : N[j]? = some x) : i = j := by
  obtain ⟨h1, e1⟩ := List.getElem?_eq_some_iff.mp a
  obtain ⟨h2, e2⟩ := List.getElem?_eq_some_iff.mp b
  exact (List.getElem_inj hN).mp (e1.trans e2.symm)
theorem store_ok2 {M : Model} {A : Around} {E : Value → Shared → Prop} {i : Nat} {x : Str} {v : V} {u : Value} {Q : Unit → Shared → Prop} (I : Inv X pins σ H s) (hN : X.N.Nodup) (hi : X.N[i]? = some x) (hx : Loc X.env.scope x) (r : RelV v u)
    (h : ∀ s', Inv X pins (σ.set i (some v)) H s' → (∃ a, Heap.SameBut a s.heap s'.heap ∧ (a = X.env.locals ∨ X.env.cells.lookup x = some a)) → Q () s') (hf : X.fn x = true ∨ X.env.scope.names.lookup x = some .local := by first | exact .inl rfl | exact .inr rfl | assumption) : wpAny M A (storeName X.env x u) Q E s := by
  obtain ⟨m, hn, hl⟩ := id I.loc
  have Lj : (X.env.scope.kind == .class || (X.env.scope.kind == .module && X.env.locals != X.env.globals)) = false := by rw [I.ok.kind]; rfl
  have E6 : i < σ.length := by rw [I.len]; exact (List.getElem?_eq_some_iff.mp hi).1
  have ql := I.ql
  have tracked : ∀ {a : Addr} {h' : Heap}, (∃ o, s.heap.get? a = some o ∧ H a = none) → Heap.SameBut a s.heap h' → cp X.prog X.w H h' := fun {a h'} ha hs b ob e => by
    obtain ⟨_, _, mx⟩ := ha
    refine (I.hok b ob e).bT (fun c w' hc q => (hs.2 c ?_).trans q) (fun _ q => q) fun _ _ q => q
    rintro rfl
    rcases hc with rfl | hc
    · rw [mx] at e; cases e
    · rw [mx] at hc; cases hc
  rcases hx with hk | hk
  · refine wpAny_storeName_local hk hn (fun h' xW hs => ?_) Lj
    obtain ⟨oL, _, _, xX, _⟩ := id hn
    refine h _ ⟨I.ok, I.os, I.bare, ⟨fun b o e n hb hx => ?_, fun b o e n hb hx => ?_, I.base.free, fun b o e hx => ?_, I.base.tups, I.base.frzs, I.base.tbls⟩, ⟨_, xW, fun j y v' e1 e2 e3 => ?_⟩, fun y c e => ?_, I.free, I.freeC, fun p hp => ?_, tracked ⟨oL, xX, I.free⟩ hs, by simpa using I.len⟩ ⟨_, hs, .inl rfl⟩
    · exact (hs.2 b (Nat.ne_of_lt (Nat.lt_of_lt_of_le (Heap.lt_size e) I.ok.above))).trans (I.base.keep b o e n hb hx)
    · obtain ⟨sl, e1⟩ := I.base.slot b o e n hb hx
      exact ⟨sl, (hs.2 b (Nat.ne_of_lt (Nat.lt_of_lt_of_le (Heap.lt_size e) I.ok.above))).trans e1⟩
    · obtain ⟨o', e1⟩ := I.base.there b o e hx
      exact ⟨o', (hs.2 b (Nat.ne_of_lt (Nat.lt_of_lt_of_le (Heap.lt_size e) I.ok.above))).trans e1⟩
    · by_cases hj : j = i
      · subst hj
        rw [hi] at e1; cases e1
        rw [List.getElem?_set_self E6] at e2
        cases e2
        exact ⟨u, r, .inl ⟨hk, by simp⟩⟩
      · rw [List.getElem?_set_ne (Ne.symm hj)] at e2
        obtain ⟨u', r', q⟩ := hl j y v' e1 e2 e3
        refine ⟨u', r', ?_⟩
        rcases q with ⟨k, e⟩ | ⟨k, c, e, z⟩
        · refine .inl ⟨k, ?_⟩
          have : y ≠ x := fun e => hj (rZ hN e1 (e ▸ hi))
          simp [this, e]
        · exact .inr ⟨k, c, e, z.sameBut hs (ql y c e)⟩
    · obtain ⟨w', z⟩ := I.cell y c e
      exact ⟨w', z.sameBut hs (ql y c e)⟩
    · obtain ⟨e, n, ne, nf, d⟩ := I.pin p hp
      exact ⟨(hs.2 p.1 ne).trans e, n, ne, nf, d⟩
  · have n8 : X.fn x = true := by
      rcases hf with z | z
      · exact z
      · rw [z] at hk; cases hk
    obtain ⟨c, hc⟩ := I.ok.has x (.inl hk)
    obtain ⟨w', z⟩ := I.cell x c hc
    refine wpAny_storeName_cell I.ok.kind hk hc z (fun h' Ct hs => ?_)
    obtain ⟨oc, qm, Lk⟩ := id z
    refine h { s with heap := h' } ⟨I.ok, I.os, I.bare, ⟨fun b o e n hb hx => ?_, fun b o e n hb hx => ?_, I.base.free, fun b o e hx => ?_, I.base.tups, I.base.frzs, I.base.tbls⟩, ⟨m, hn.sameBut hs (Ne.symm (ql x c hc)), fun j y v' e1 e2 e3 => ?_⟩, fun y c' e => ?_, I.free, I.freeC, fun p hp => ?_, tracked ⟨oc, qm, I.freeC x c hc⟩ hs, by simpa using I.len⟩ ⟨c, hs, .inr hc⟩
    · exact (hs.2 b (Nat.ne_of_lt (Nat.lt_of_lt_of_le (Heap.lt_size e) (I.ok.cab x c n8 hc)))).trans (I.base.keep b o e n hb hx)
    · obtain ⟨sl, e1⟩ := I.base.slot b o e n hb hx
      exact ⟨sl, (hs.2 b (Nat.ne_of_lt (Nat.lt_of_lt_of_le (Heap.lt_size e) (I.ok.cab x c n8 hc)))).trans e1⟩
    · obtain ⟨o', e1⟩ := I.base.there b o e hx
      exact ⟨o', (hs.2 b (Nat.ne_of_lt (Nat.lt_of_lt_of_le (Heap.lt_size e) (I.ok.cab x c n8 hc)))).trans e1⟩
    · by_cases hj : j = i
      · subst hj
        rw [hi] at e1; cases e1
        rw [List.getElem?_set_self E6] at e2
        cases e2
        exact ⟨u, r, .inr ⟨.inl hk, c, hc, Ct⟩⟩
      · rw [List.getElem?_set_ne (Ne.symm hj)] at e2
        obtain ⟨u', r', q⟩ := hl j y v' e1 e2 e3
        refine ⟨u', r', ?_⟩
        rcases q with q | ⟨k, c', e, z'⟩
        · exact .inl q
        · refine .inr ⟨k, c', e, z'.sameBut hs ?_⟩
          rintro rfl
          exact hj (rZ hN e1 (I.ok.inj _ _ _ e hc ▸ hi))
    · by_cases J5 : c' = c
      · subst J5; exact ⟨_, Ct⟩
      · obtain ⟨w2, z2⟩ := I.cell y c' e
        exact ⟨w2, z2.sameBut hs J5⟩
    · obtain ⟨e, n, ne, nf, d⟩ := I.pin p hp
      refine ⟨(hs.2 p.1 ?_).trans e, n, ne, nf, d⟩
      intro q
      rw [q, qm] at e
      have q' : oc = p.2 := Option.some.inj e
      exact d w' (by rw [← q']; exact Lk)
theorem sd {M : Model} {A : Around} {E : Value → Shared → Prop} {i : Nat} {x : Str} {v : V} {u : Value} {Q : Unit → Shared → Prop} (I : Inv X pins σ H s) (hN : X.N.Nodup) (hi : X.N[i]? = some x) (hx : Loc X.env.scope x) (r : RelV v u)
    (h : ∀ s', Inv X pins (σ.set i (some v)) H s' → Q () s') (hf : X.fn x = true ∨ X.env.scope.names.lookup x = some .local := by first | exact .inl rfl | exact .inr rfl | assumption) : wpAny M A (storeName X.env x u) Q E s :=
  store_ok2 I hN hi hx r (fun s' I' _ => h s' I') hf
theorem Inv.oe {s' : Shared} {ch : List Addr} (I : Inv X pins σ H s) (ho : s'.os = s.os) (u : Un (dO X.stack) ch H H' s.heap s'.heap) (hok : cp X.prog X.w H' s'.heap) (hg : Gn s.gens.size s'.gens)
    (mV : ∀ b ∈ ch, (b ∈ X.ex ∨ X.s₀.heap.objs.size ≤ b) ∧ b ≠ X.env.locals ∧ (∀ x c, X.env.cells.lookup x = some c → c ≠ b) ∧ ∀ p ∈ X.pn ++ pins, p.1 ≠ b) : Inv X pins σ H' s' := by
  obtain ⟨h', g', d', t', o'⟩ := s'
  have e : o' = s.os := ho
  subst e
  exact I.call (g' := g') (t' := t') (d' := d') u hok hg mV
end
noncomputable abbrev XK := Value → Option Addr → Hp → Prop
noncomputable abbrev St := List (Option V)
noncomputable abbrev VK := V → Hp → Prop
noncomputable abbrev TE := St → Hp → VK → Prop
noncomputable abbrev TT := St → Hp → (Bool → Hp → Prop) → Prop
noncomputable abbrev TA := St → Hp → (List V → Hp → Prop) → Prop
structure Ends where
  nx : St → Hp → Prop
  rt : VK
  bk : St → Hp → Prop := fun _ _ => False
  ct : St → Hp → Prop := fun _ _ => False
noncomputable abbrev TS := Ends → St → Hp → Prop
noncomputable def EP (X : Cx) (pins : List (Addr × Obj)) (σ : St) (Q : VK) (u : Value) (s' : Shared) : Prop := ∃ v H', Inv X pins σ H' s' ∧ RelV v u ∧ Q v H'
noncomputable def TP (X : Cx) (pins : List (Addr × Obj)) (σ : St) (Q : Bool → Hp → Prop) (b : Bool) (s' : Shared) : Prop := ∃ H', Inv X pins σ H' s' ∧ Q b H'
noncomputable def AP (X : Cx) (pins : List (Addr × Obj)) (σ : St) (Q : List V → Hp → Prop) (us : List Value) (s' : Shared) : Prop := ∃ vs H', Inv X pins σ H' s' ∧ Vals vs us ∧ Q vs H'
noncomputable def SP (X : Cx) (pins : List (Addr × Obj)) (D : Ends) (f : Flow) (s' : Shared) : Prop :=
  match f with
  | .next => ∃ aG H', Inv X pins aG H' s' ∧ D.nx aG H'
  | .brk => ∃ aG H', Inv X pins aG H' s' ∧ D.bk aG H'
  | .cont => ∃ aG H', Inv X pins aG H' s' ∧ D.ct aG H'
  | .ret u => ∃ v aG H', Inv X pins aG H' s' ∧ RelV v u ∧ D.rt v H'
structure PE (X : Cx) (e : Expr) (t : TE) : Prop where
  run : ∀ (pins : List (Addr × Obj)) (s : Shared) (σ : St) (H : Hp) (Q : VK), Inv X pins σ H s → t σ H Q → wpAny (model X.prog X.w) X.A (eval e X.env) (EP X pins σ Q) X.xe s
instance {X : Cx} {e : Expr} {t : TE} : CoeFun (PE X e t) (fun _ => ∀ (pins : List (Addr × Obj)) (s : Shared) (σ : St) (H : Hp) (Q : VK), Inv X pins σ H s → t σ H Q → wpAny (model X.prog X.w) X.A (eval e X.env) (EP X pins σ Q) X.xe s) := ⟨PE.run⟩
structure PT (X : Cx) (e : Expr) (t : TT) : Prop where
  run : ∀ (pins : List (Addr × Obj)) (s : Shared) (σ : St) (H : Hp) (Q : Bool → Hp → Prop), Inv X pins σ H s → t σ H Q → wpAny (model X.prog X.w) X.A (isTrue e X.env (eval e X.env)) (TP X pins σ Q) X.xe s
instance {X : Cx} {e : Expr} {t : TT} : CoeFun (PT X e t) (fun _ => ∀ (pins : List (Addr × Obj)) (s : Shared) (σ : St) (H : Hp) (Q : Bool → Hp → Prop), Inv X pins σ H s → t σ H Q → wpAny (model X.prog X.w) X.A (isTrue e X.env (eval e X.env)) (TP X pins σ Q) X.xe s) := ⟨PT.run⟩
noncomputable def PW (X : Cx) (e : Expr) (t : TT) : Prop :=
  ∀ (whole : Sem Value) (pins : List (Addr × Obj)) (s : Shared) (σ : St) (H : Hp) (Q : Bool → Hp → Prop), Inv X pins σ H s → t σ H Q → wpAny (model X.prog X.w) X.A (isTrue e X.env whole) (TP X pins σ Q) X.xe s
theorem PW.pt {X : Cx} {e : Expr} {t : TT} (h : PW X e t) : PT X e t := ⟨h _⟩
structure PA (X : Cx) (es : List Expr) (t : TA) : Prop where
  run : ∀ (pos : Pos) (pins : List (Addr × Obj)) (s : Shared) (σ : St) (H : Hp) (Q : List V → Hp → Prop), Inv X pins σ H s → t σ H Q → wpAny (model X.prog X.w) X.A (spliced (backTo pos (starEach es X.env))) (AP X pins σ Q) X.xe s
instance {X : Cx} {es : List Expr} {t : TA} : CoeFun (PA X es t) (fun _ => ∀ (pos : Pos) (pins : List (Addr × Obj)) (s : Shared) (σ : St) (H : Hp) (Q : List V → Hp → Prop), Inv X pins σ H s → t σ H Q → wpAny (model X.prog X.w) X.A (spliced (backTo pos (starEach es X.env))) (AP X pins σ Q) X.xe s) := ⟨PA.run⟩
structure PS (X : Cx) (st : Stmt) (t : TS) : Prop where
  run : ∀ (pins : List (Addr × Obj)) (s : Shared) (σ : St) (H : Hp) (D : Ends), Inv X pins σ H s → t D σ H → wpAny (model X.prog X.w) X.A (exec st X.env) (SP X pins D) X.xe s
instance {X : Cx} {st : Stmt} {t : TS} : CoeFun (PS X st t) (fun _ => ∀ (pins : List (Addr × Obj)) (s : Shared) (σ : St) (H : Hp) (D : Ends), Inv X pins σ H s → t D σ H → wpAny (model X.prog X.w) X.A (exec st X.env) (SP X pins D) X.xe s) := ⟨PS.run⟩
structure fO (X : Cx) (st : List Stmt) (t : TS) : Prop where
  run : ∀ (pins : List (Addr × Obj)) (s : Shared) (σ : St) (H : Hp) (D : Ends), Inv X pins σ H s → t D σ H → wpAny (model X.prog X.w) X.A (execs st X.env) (SP X pins D) X.xe s
instance {X : Cx} {st : List Stmt} {t : TS} : CoeFun (fO X st t) (fun _ => ∀ (pins : List (Addr × Obj)) (s : Shared) (σ : St) (H : Hp) (D : Ends), Inv X pins σ H s → t D σ H → wpAny (model X.prog X.w) X.A (execs st X.env) (SP X pins D) X.xe s) := ⟨fO.run⟩
theorem thn {α : Type} {t : Sem α} {Q Q' : α → Shared → Prop} {M : Model} {A : Around} {E : Value → Shared → Prop} {s : Shared} (h : wpAny M A t Q E s) (hQ : ∀ a s, Q a s → Q' a s) : wpAny M A t Q' E s := wpAny_mono h hQ fun _ _ x => x
section
variable {X : Cx}
theorem bin {a b : Expr} {ta tb : TE} (ha : PE X a ta) (hb : PE X b tb) {pins : List (Addr × Obj)} {s : Shared} {σ : St} {H : Hp} {R : V → V → Hp → Prop} (I : Inv X pins σ H s) (h : ta σ H fun x H1 => tb σ H1 fun y H2 => R x y H2)
    {α : Type} {Q : α → Shared → Prop} {f : Value → Value → Sem α}
    (hf : ∀ v u s2 x y H2, Inv X pins σ H2 s2 → RelV x v → RelV y u → R x y H2 → wpAny (model X.prog X.w) X.A (f v u) Q X.xe s2) :
    wpAny (model X.prog X.w) X.A (eval a X.env) (fun v az => wpAny (model X.prog X.w) X.A (eval b X.env) (fun u gI => wpAny (model X.prog X.w) X.A (f v u) Q X.xe gI) X.xe az) X.xe s := by
  refine thn (ha pins s σ H _ I h) fun v s1 ⟨x, H1, I1, r1, q1⟩ => ?_
  refine thn (hb pins s1 σ H1 _ I1 q1) fun u s2 ⟨y, H2, I2, r2, q2⟩ => ?_
  exact hf v u s2 x y H2 I2 r1 r2 q2
noncomputable def E7 (i : Nat) : TE := fun σ H Q => ∃ v, σ[i]? = some (some v) ∧ Q v H
noncomputable def tC (v : V) : TE := fun _ H Q => Q v H
theorem se {i : Nat} {x : Str} {pos : Pos} (hN : X.N[i]? = some x) (hv : mU X.env.scope x) (hd : (x == ("__debug__" : Str)) = false := by decide) (dE : (x == ("__classdict__" : Str)) = false := by decide) : PE X (.Name x pos) (E7 i) := by
  refine ⟨?_⟩
  intro pins s σ H Q I h
  obtain ⟨v, e, h⟩ := h
  obtain ⟨m, hn, hl⟩ := I.loc
  obtain ⟨u, r, l⟩ := hl i x v hN e hv
  have fin : EP X pins σ Q u s := ⟨v, H, I, r, h⟩
  rcases l with ⟨hk, hm⟩ | ⟨hk, c, hc, rR⟩
  · exact wpAny_Name (wpAny_loadName_local I.ok.kind hk hn hm fin) hd
  · rcases hk with hk | hk
    · exact wpAny_Name (wpAny_loadName_cell I.ok.kind hk hc rR fin) hd
    · exact wpAny_Name (wpAny_loadName_free I.ok.kind hk hc rR fin dE) hd
theorem E8 {i j pos} : PE X (.Constant (.int i) j pos) (tC (.int i)) := ⟨fun _ _ _ H _ I h => wpAny_Constant_int ⟨.int i, H, I.tok _, ⟨_, rfl⟩, h⟩⟩
theorem IL {b j pos} : PE X (.Constant (.bool b) j pos) (tC (.bl b)) := ⟨fun _ _ _ H _ I h => Constant_bool ⟨.bl b, H, I, rfl, h⟩⟩
theorem E9 {j pos} : PE X (.Constant .none j pos) (tC .ao) := ⟨fun _ _ _ H _ I h => Constant_none ⟨.ao, H, I, rfl, h⟩⟩
theorem Fb {x j pos} : PE X (.Constant (.str x) j pos) (tC (.str x)) := ⟨fun _ _ _ H _ I h => Calls.Constant_str ⟨.str x, H, I.tok _, ⟨_, rfl⟩, h⟩⟩
noncomputable def Gl (X : Cx) (x : Str) : Prop := X.env.kindOf x = some .globalImplicit
theorem my {E : Value → Shared → Prop} {pins : List (Addr × Obj)} {s : Shared} {σ : St} {H : Hp} {x : Str} {u : Value} {pos : Pos} {Q : Value → Shared → Prop} (I : Inv X pins σ H s) (hg : Gl X x) (hm : X.mg x = some u) (h : Q u s)
    (hd : (x == ("__debug__" : Str)) = false := by decide) : wpAny (model X.prog X.w) X.A (eval (.Name x pos) X.env) Q E s :=
  Calls.Name_function_global I.ok.kind hg (Calls.loadGlobal_global (by rw [I.ok.glob]; exact I.mod.glob.keeps I.bk) hm h) hd
theorem f6 {E : Value → Shared → Prop} {pins : List (Addr × Obj)} {s : Shared} {σ : St} {H : Hp} {x : Str} {u : Value} {pos : Pos} {Q : Value → Shared → Prop} (I : Inv X pins σ H s) (hg : Gl X x) (hm : X.mg x = none) (hv : bootBuiltins x = some u) (h : Q u s)
    (hn : x ≠ "__name__" := by decide) (hd : (x == ("__debug__" : Str)) = false := by decide) : wpAny (model X.prog X.w) X.A (eval (.Name x pos) X.env) Q E s := by
  obtain ⟨mb, h1, h2⟩ := I.mod.blt
  exact Calls.Name_function_global I.ok.kind hg (Calls.loadGlobal_builtin (by rw [I.ok.glob]; exact I.mod.glob.keeps I.bk) hm (by rw [I.ok.blt]; exact h1.keeps I.bk) ((h2 x hn).trans hv) h) hd
theorem u6 {x : Str} {v : V} {u : Value} {pos : Pos} (hg : Gl X x) (hm : X.mg x = some u) (r : RelV v u) (hd : (x == ("__debug__" : Str)) = false := by decide) : PE X (.Name x pos) (tC v) := ⟨fun _ _ _ H _ I h => my I hg hm ⟨v, H, I, r, h⟩ hd⟩
theorem Ds {x : Str} {v : V} {u : Value} {pos : Pos} (hg : Gl X x) (hm : X.mg x = none) (hv : bootBuiltins x = some u) (r : RelV v u) (hn : x ≠ "__name__" := by decide) (hd : (x == ("__debug__" : Str)) = false := by decide) : PE X (.Name x pos) (tC v) := ⟨fun _ _ _ H _ I h => f6 I hg hm hv ⟨v, H, I, r, h⟩ hn hd⟩
variable {a b : Expr} {ta tb : TE} {pos : Pos}
noncomputable def PC (X : Cx) (op : CmpOp) (a b : Expr) (t : TE) : Prop :=
  ∀ (pins : List (Addr × Obj)) (s : Shared) (σ : St) (H : Hp) (Q : VK), Inv X pins σ H s → t σ H Q →
    wpAny (model X.prog X.w) X.A (eval a X.env) (fun v az => wpAny (model X.prog X.w) X.A (eval b X.env) (fun u gI => wpAny (model X.prog X.w) X.A (compareOp op v u) (EP X pins σ Q) X.xe gI) X.xe az) X.xe s
theorem AF (b : Expr) {op : CmpOp} (h : op ≠ .In) (h2 : op ≠ .NotIn) : behindInMarks op b = false := by
  have e1 : (op == CmpOp.In) = false := by cases op <;> first | rfl | exact absurd rfl h
  have e2 : (op == CmpOp.NotIn) = false := by cases op <;> first | rfl | exact absurd rfl h2
  cases b <;> simp [behindInMarks, e1, e2]
noncomputable def tB (t : TE) : TT := fun σ H Q => t σ H fun x H1 => ∃ c, x = .bl c ∧ Q c H1
theorem MN {op : CmpOp} {t : TE} (h : PC X op a b t) (h1 : behindInMarks op b = false := by first | exact AF _ (by decide) (by decide) | rfl) : PT X (.Compare a [op] [b] pos) (tB t) := by
  refine ⟨?_⟩
  intro pins s σ H Q I hw
  refine wpAny_isTrue_Compare1 (thn (h pins s σ H _ I hw) fun v s1 h1 => thn h1 fun u s2 h2 => thn h2 fun c s3 ⟨x, H1, I1, r1, q1⟩ => ?_) h1
  obtain ⟨d, rfl, q⟩ := q1
  cases r1
  exact wpAny_truthy_bool ⟨H1, I1, q⟩
theorem Fc {e : Expr} {t : TE} (h : PE X e t) (he : ∀ whole, isTrue e X.env whole = (do let v ← whole; standAt e.pos; holding [v] (truthy v)) := by intro _; rfl) : PT X e (tB t) := by
  refine ⟨?_⟩
  intro pins s σ H Q I hw
  refine isTrue_plain (thn (h pins s σ H _ I hw) fun v s1 ⟨x, H1, I1, r1, q1⟩ => ?_) (he _)
  obtain ⟨d, rfl, q⟩ := q1
  cases r1
  exact wpAny_truthy_bool ⟨H1, I1, q⟩
variable {tA og : TT} {rest : List Expr}
noncomputable def Ln (t u : TT) : TT := fun σ H Q => t σ H fun c H1 => if c = true then u σ H1 Q else Q false H1
noncomputable def MO (t u : TT) : TT := fun σ H Q => t σ H fun c H1 => if c = true then Q true H1 else u σ H1 Q
noncomputable def Lp (t : TT) : TT := fun σ H Q => t σ H fun c H1 => Q (!c) H1
theorem Du (ha : PT X a tA) : PW X (.BoolOp .And [a] pos) tA := by
  intro wh pins s σ H Q I h
  refine isTrue_and (thn (ha pins s σ H Q I h) fun c s1 e => ?_)
  cases c with
  | true => exact isTrue_and_nil e
  | false => exact e
theorem Fd (ha : PT X a tA) : PW X (.BoolOp .Or [a] pos) tA := by
  intro wh pins s σ H Q I h
  refine isTrue_or (thn (ha pins s σ H Q I h) fun c s1 e => ?_)
  cases c with
  | false => exact isTrue_or_nil e
  | true => exact e
theorem Fe (ha : PT X a tA) (hb : PW X (.BoolOp .And (b :: rest) pos) og) : PW X (.BoolOp .And (a :: b :: rest) pos) (Ln tA og) := by
  intro wh pins s σ H Q I h
  refine isTrue_and (thn (ha pins s σ H _ I h) fun c s1 ⟨H1, I1, q1⟩ => ?_)
  cases c with
  | true => exact hb wh pins s1 σ H1 Q I1 q1
  | false => exact ⟨H1, I1, q1⟩
theorem IM (ha : PT X a tA) (hb : PW X (.BoolOp .Or (b :: rest) pos) og) : PW X (.BoolOp .Or (a :: b :: rest) pos) (MO tA og) := by
  intro wh pins s σ H Q I h
  refine isTrue_or (thn (ha pins s σ H _ I h) fun c s1 ⟨H1, I1, q1⟩ => ?_)
  cases c with
  | true => exact ⟨H1, I1, q1⟩
  | false => exact hb wh pins s1 σ H1 Q I1 q1
theorem Ff (ha : PT X a tA) : PT X (.UnaryOp .Not a pos) (Lp tA) := by
  refine ⟨?_⟩
  intro pins s σ H Q I h
  exact isTrue_not (ha pins s σ H (fun c H1 => Q (!c) H1) I h)
noncomputable def IP (ta tb : TE) : TE := fun σ H Q => ta σ H fun x H1 => ∃ c, x = .bl c ∧ if c = true then tb σ H1 Q else Q (.bl false) H1
noncomputable def IQ (ta : TE) : TE := fun σ H Q => ta σ H fun x H1 => ∃ c, x = .bl c ∧ Q (.bl (!c)) H1
theorem Fg {op} {t : TE} (h : PE X a t) : PE X (.BoolOp op [a] pos) t := ⟨fun pins s σ H Q I hw => BoolOp_one (h pins s σ H Q I hw)⟩
theorem Fh (ha : PE X a ta) (hb : PE X (.BoolOp .And (b :: rest) pos) tb) : PE X (.BoolOp .And (a :: b :: rest) pos) (IP ta tb) := by
  refine ⟨?_⟩
  intro pins s σ H Q I h
  refine BoolOp_and (thn (ha pins s σ H _ I h) fun v s1 ⟨x, H1, I1, r1, q1⟩ => ?_)
  obtain ⟨c, rfl, q1⟩ := q1
  cases r1
  refine wpAny_truthy_bool ?_
  cases c with
  | true => exact hb pins s1 σ H1 Q I1 q1
  | false => exact ⟨.bl false, H1, I1, rfl, q1⟩
theorem Fi (ha : PE X a ta) : PE X (.UnaryOp .Not a pos) (IQ ta) := by
  refine ⟨?_⟩
  intro pins s σ H Q I h
  refine UnaryOp_ (thn (ha pins s σ H _ I h) fun v s1 ⟨x, H1, I1, r1, q1⟩ => ?_)
  obtain ⟨c, rfl, q1⟩ := q1
  cases r1
  exact not_of (wpAny_truthy_bool ⟨.bl (!c), H1, I1, rfl, q1⟩)
end
noncomputable def bH (K : PySem.W.Frag) (H : Hp) (a : Addr) (xs : List V) : Prop :=
  Rd H a (.lst xs) ∨
    ∃ (o : Obj) (its : Array Value) (n : Nat), K.lookup a = some o ∧ o.cls = .type "list" ∧ o.dict = none ∧ o.data = .seq its n ∧ its.size ≤ sizeLine ∧ Vals xs its.toList
noncomputable def cu (K : PySem.W.Frag) (H : Hp) (a : Addr) (xs : List V) : Prop :=
  Rd H a (.tup xs) ∨
    ∃ (o : Obj) (its : Array Value) (n : Nat), K.lookup a = some o ∧ o.cls = .type "tuple" ∧ o.data = .seq its n ∧ its.size ≤ sizeLine ∧ Vals xs its.toList
noncomputable def Lq : Value → Option V
  | .none => some .ao
  | .bool b => some (.bl b)
  | .int i _ => some (.int i)
  | .str x _ => some (.str x)
  | .bytes b _ => some (.iR b)
  | .float b _ => some (.u0 b)
  | .ref a => some (.ref a)
  | .type n => some (.ty n)
  | _ => none
theorem RelV.abs {x : V} {u : Value} (r : RelV x u) : Lq u = some x := by
  cases x with
  | ao => cases r; rfl
  | bl _ => cases r; rfl
  | int _ => obtain ⟨t, rfl⟩ := r; rfl
  | str _ => obtain ⟨t, rfl⟩ := r; rfl
  | iR _ => obtain ⟨t, rfl⟩ := r; rfl
  | u0 _ => obtain ⟨t, rfl⟩ := r; rfl
  | ref _ => cases r; rfl
  | ty _ => cases r; rfl
theorem RelV.inj {x y : V} {u : Value} (r : RelV x u) (q : RelV y u) : x = y := Option.some.inj (r.abs.symm.trans q.abs)
theorem Vals.inj : ∀ {xs ys : List V} {us : List Value}, Vals xs us → Vals ys us → xs = ys
  | _, _, _, .nil, .nil => rfl
  | _, _, _, .cons r t, .cons r' t' => by rw [r.inj r', Vals.inj t t']
section
variable {X : Cx} {pins : List (Addr × Obj)} {σ : St} {H : Hp} {s : Shared} {a : Addr} {xs ys : List V}
theorem bH.of {K : PySem.W.Frag} (h : H a = some (.lst xs)) : bH K H a xs := .inl (.inl h)
theorem cu.of {K : PySem.W.Frag} (h : H a = some (.tup xs)) : cu K H a xs := .inl (.inl h)
theorem Inv.list (I : Inv X pins σ H s) (h : bH X.K H a xs) : ∃ its : List Value, Vals xs its ∧ PlainL s.heap a its.toArray ∧ xs.length ≤ sizeLine := by
  rcases h with h | ⟨o, its, n, hk, hc, hd, hs, hz, r⟩
  · obtain ⟨z, its, n, r, e⟩ := h.ok I.hok
    exact ⟨its, r, ⟨_, n, e, rfl, rfl, rfl⟩, z⟩
  · refine ⟨its.toList, r, ⟨o, n, I.fZ a o hk, hc, hd, by simpa using hs⟩, ?_⟩
    have e := r.length
    simp only [Array.length_toList] at e
    omega
theorem Inv.tuple (I : Inv X pins σ H s) (h : cu X.K H a xs) : ∃ its : List Value, Vals xs its ∧ IsTup s.heap a its.toArray ∧ xs.length ≤ sizeLine := by
  rcases h with h | ⟨o, its, n, hk, hc, hs, hz, r⟩
  · obtain ⟨z, its, r, p⟩ := h.ok I.hok
    exact ⟨its, r, ka.tup p, z⟩
  · refine ⟨its.toList, r, ⟨o, I.fZ a o hk, hc, n, by simpa using hs⟩, ?_⟩
    have e := r.length
    simp only [Array.length_toList] at e
    omega
theorem Inv.sf (I : Inv X pins σ H s) (h : bH X.K H a xs) (h' : bH X.K H a ys) : xs = ys := by
  obtain ⟨its, r, ⟨o, n, e, _, _, d⟩, _⟩ := I.list h
  obtain ⟨its', r', ⟨o', n', e', _, _, d'⟩, _⟩ := I.list h'
  rw [e] at e'; cases e'
  rw [d] at d'
  injection d' with d1 _
  have : its = its' := by simpa using congrArg Array.toList d1
  subst this
  exact r.inj r'
theorem Inv.qo (I : Inv X pins σ H s) (h : cu X.K H a xs) (h' : cu X.K H a ys) : xs = ys := by
  obtain ⟨its, r, ⟨o, e, _, n, d⟩, _⟩ := I.tuple h
  obtain ⟨its', r', ⟨o', e', _, n', d'⟩, _⟩ := I.tuple h'
  rw [e] at e'; cases e'
  rw [d] at d'
  injection d' with d1 _
  have : its = its' := by simpa using congrArg Array.toList d1
  subst this
  exact r.inj r'
end
noncomputable abbrev Cx.iU (X : Cx) (E : Value → Shared → Prop) : Cx := { X with xe := E }
noncomputable abbrev Cx.kR (X : Cx) : Cx := X.iU fun _ _ => False
theorem Cx.Ok.iU {X : Cx} (ok : X.Ok) (E : Value → Shared → Prop) : (X.iU E).Ok :=
  ⟨ok.mod, ok.kind, ok.glob, ok.blt, ok.above, ok.inj, ok.has, ok.cab, ok.hd, ok.frames, ok.stk, ok.exf, ok.bs, ok.bsz, ok.noex, ok.exfs, ok.funs, ok.frf⟩
theorem Cx.Ok.f7 {X : Cx} {E : Value → Shared → Prop} (ok : (X.iU E).Ok) : X.Ok :=
  ⟨ok.mod, ok.kind, ok.glob, ok.blt, ok.above, ok.inj, ok.has, ok.cab, ok.hd, ok.frames, ok.stk, ok.exf, ok.bs, ok.bsz, ok.noex, ok.exfs, ok.funs, ok.frf⟩
section
variable {X : Cx} {pins : List (Addr × Obj)} {σ : St} {H : Hp} {s : Shared} {E : Value → Shared → Prop}
theorem Inv.iU (I : Inv X pins σ H s) (E : Value → Shared → Prop) : Inv (X.iU E) pins σ H s := ⟨I.ok.iU E, I.os, I.bare, I.base, I.loc, I.cell, I.free, I.freeC, I.pin, I.hok, I.len⟩
theorem Inv.f7 (I : Inv (X.iU E) pins σ H s) : Inv X pins σ H s := ⟨I.ok.f7, I.os, I.bare, I.base, I.loc, I.cell, I.free, I.freeC, I.pin, I.hok, I.len⟩
theorem SP.f7 {D : Ends} {f : Flow} {s' : Shared} (h : SP (X.iU E) pins D f s') : SP X pins D f s' := by
  cases f with
  | next => obtain ⟨aG, H', I, q⟩ := h; exact ⟨aG, H', I.f7, q⟩
  | brk => obtain ⟨aG, H', I, q⟩ := h; exact ⟨aG, H', I.f7, q⟩
  | cont => obtain ⟨aG, H', I, q⟩ := h; exact ⟨aG, H', I.f7, q⟩
  | ret u => obtain ⟨v, aG, H', I, r, q⟩ := h; exact ⟨v, aG, H', I.f7, r, q⟩
theorem PE.kR {e : Expr} {t : TE} (h : PE X.kR e t) : PE X e t := ⟨fun pins s σ H Q I hw =>
  wpAny_mono (h pins s σ H Q (I.iU _) hw) (fun _ _ ⟨v, H', I', r, q⟩ => ⟨v, H', I'.f7, r, q⟩) fun _ _ z => False.elim z⟩
theorem fO.kR {st : List Stmt} {t : TS} (h : fO X.kR st t) : fO X st t := ⟨fun pins s σ H D I hw =>
  wpAny_mono (h pins s σ H D (I.iU _) hw) (fun _ _ q => q.f7) fun _ _ z => False.elim z⟩
end
section
variable {X : Cx} {st : Stmt} {rest : List Stmt} {t u : TS} {e : Expr} {te : TE} {pos : Pos}
noncomputable def IU : TS := fun D σ H => D.nx σ H
noncomputable def Lr (t u : TS) : TS := fun D σ H => t { D with nx := u D } σ H
theorem Dw : fO X [] IU := ⟨fun _ _ σ H _ I h => wpAny_execs_nil ⟨σ, H, I, h⟩⟩
theorem AG (h1 : PS X st t) (h2 : fO X rest u) : fO X (st :: rest) (Lr t u) := by
  refine ⟨?_⟩
  intro pins s σ H D I h
  refine wpAny_execs_cons (thn (h1 pins s σ H { D with nx := u D } I h) fun f s1 q => ?_)
  cases f with
  | next =>
    obtain ⟨aG, H', I', q⟩ := q
    exact h2 pins s1 aG H' D I' q
  | ret v => exact q
  | brk => exact q
  | cont => exact q
theorem Dx (h1 : PS X st t) : fO X [st] t := by
  refine ⟨?_⟩
  intro pins s σ H D I h
  refine wpAny_execs_cons (thn (h1 pins s σ H D I h) fun f s1 q => ?_)
  cases f with
  | next => exact wpAny_execs_nil q
  | ret v => exact q
  | brk => exact q
  | cont => exact q
theorem Inv.quiet {pins : List (Addr × Obj)} {σ : St} {H : Hp} {s : Shared} (I : Inv X pins σ H s) : interactive X.env = false := by simp [interactive, I.ok.kind]
noncomputable def IV (te : TE) : TS := fun D σ H => te σ H fun _ H1 => D.nx σ H1
theorem Dy (he : PE X e te) (hs : swapsWith e none pos.line X.env = pure false := by rfl) : PS X (.Expr e pos) (IV te) := by
  refine ⟨?_⟩
  intro pins s σ H D I h
  exact wpAny_Expr_any (thn (he pins s σ H _ I h) fun v s1 ⟨x, H1, I1, r1, q1⟩ => ⟨σ, H1, I1, q1⟩) I.quiet hs
noncomputable def Ls (te : TE) : TS := fun D σ H => te σ H D.rt
theorem Fj (he : PE X e te) : PS X (.Return (some e) pos) (Ls te) := by
  refine ⟨?_⟩
  intro pins s σ H D I h
  exact wpAny_Return_some (thn (he pins s σ H _ I h) fun v s1 ⟨x, H1, I1, r1, q1⟩ => ⟨x, σ, H1, I1, r1, q1⟩)
noncomputable def Lv (c : TT) (t u : TS) : TS := fun D σ H => c σ H fun b H1 => if b = true then t D σ H1 else u D σ H1
theorem IW {c : Expr} {a b : List Stmt} {tc : TT} (hc : PT X c tc) (ha : fO X a t) (hb : fO X b u) : PS X (.If c a b pos) (Lv tc t u) := by
  refine ⟨?_⟩
  intro pins s σ H D I h
  refine wpAny_If (thn (hc pins s σ H _ I h) fun d s1 ⟨H1, I1, q1⟩ => ?_)
  cases d with
  | true => exact ha pins s1 σ H1 D I1 q1
  | false => exact hb pins s1 σ H1 D I1 q1
end
noncomputable abbrev TG := V → St → Hp → (St → Hp → Prop) → Prop
noncomputable abbrev oh := List V → St → Hp → (St → Hp → Prop) → Prop
noncomputable def PG (X : Cx) (target : Expr) (t : TG) : Prop :=
  ∀ (pins : List (Addr × Obj)) (s : Shared) (σ : St) (H : Hp) (v : V) (u : Value) (Q : St → Hp → Prop), Inv X pins σ H s → RelV v u → t v σ H Q →
    wpAny (model X.prog X.w) X.A (assign target X.env u) (fun _ s' => ∃ aG H', Inv X pins aG H' s' ∧ Q aG H') X.xe s
noncomputable def qp (X : Cx) (ts : List Expr) (t : oh) : Prop :=
  ∀ (pins : List (Addr × Obj)) (s : Shared) (σ : St) (H : Hp) (vs : List V) (us : List Value) (Q : St → Hp → Prop), Inv X pins σ H s → Vals vs us → t vs σ H Q →
    wpAny (model X.prog X.w) X.A (assignInOrder ((assignEach ts X.env).map (·.2)) us) (fun _ s' => ∃ aG H', Inv X pins aG H' s' ∧ Q aG H') X.xe s
noncomputable abbrev AH := V → V → V → Hp → (Hp → Prop) → Prop
noncomputable def Fl (X : Cx) (t : AH) : Prop :=
  ∀ (pins : List (Addr × Obj)) (s : Shared) (σ : St) (H : Hp) (o i v : V) (ov iv u : Value) (Q : Hp → Prop), Inv X pins σ H s → RelV o ov → RelV i iv → RelV v u → t o i v H Q →
    wpAny (model X.prog X.w) X.A (setItem ov iv u) (fun _ s' => ∃ H', Inv X pins σ H' s' ∧ Q H') X.xe s
section
variable {X : Cx} {pos : Pos}
noncomputable def oi (i : Nat) : TG := fun v σ H Q => Q (σ.set i (some v)) H
theorem Dz {i : Nat} {x : Str} (hN : X.N.Nodup) (hi : X.N[i]? = some x) (hx : Loc X.env.scope x) (hf : X.fn x = true ∨ X.env.scope.names.lookup x = some .local := by first | exact .inl rfl | exact .inr rfl | assumption) : PG X (.Name x pos) (oi i) := by
  intro pins s σ H v u Q I r h
  exact wpAny_assign_Name (sd I hN hi hx r (fun s' I' => ⟨_, H, I', h⟩) hf)
noncomputable def Lw : oh := fun vs σ H Q => vs = [] ∧ Q σ H
noncomputable def IX (t : TG) (u : oh) : oh := fun vs σ H Q => ∃ v r, vs = v :: r ∧ t v σ H fun aG H' => u r aG H' Q
theorem DA : qp X [] Lw := by
  intro pins s σ H vs us Q I r h
  obtain ⟨e, h⟩ := h
  subst e
  cases r
  exact assignInOrder_nil ⟨σ, H, I, h⟩
theorem AI {e : Expr} {es : List Expr} {t : TG} {u : oh} (h1 : PG X e t) (h2 : qp X es u)
    (hs : (assignEach (e :: es) X.env).map (·.2) = assign e X.env :: (assignEach es X.env).map (·.2) := by rfl) : qp X (e :: es) (IX t u) := by
  intro pins s σ H vs us Q I r h
  obtain ⟨v, vr, e1, h⟩ := h
  subst e1
  cases r with
  | cons r rr =>
    rw [hs]
    refine assignInOrder_cons (thn (h1 pins s σ H _ _ _ I r h) fun _ s1 ⟨oj, H1, I1, q1⟩ => ?_)
    exact h2 pins s1 oj H1 _ _ Q I1 rr q1
noncomputable def Lx (K : PySem.W.Frag) (n : Nat) (t : oh) : TG := fun v σ H Q => ∃ a xs, v = .ref a ∧ cu K H a xs ∧ xs.length = n ∧ t xs σ H Q
theorem Fm {es : List Expr} {k : Nat} {t : oh} {n : Nat} (hc : X.calm = true) (h : qp X es t)
    (hn : (assignEach es X.env).length = n := by rfl) (mW : (assignEach es X.env).findIdx? (·.1) = none := by rfl) : PG X (.Tuple es k pos) (Lx X.K n t) := by
  intro pins s σ H v u Q I r hw
  obtain ⟨a, xs, e1, hq, hl, hw⟩ := hw
  subst e1
  cases r
  obtain ⟨its, rv, ht, hz⟩ := I.tuple hq
  refine assign_Tuple_tuple (I.ok.hd hc) ht (by simp [hn, ← hl, rv.length]) mW fun h' hx => ?_
  have I1 : Inv X pins σ H { s with heap := h' } := I.kept (t' := s.toks) fun b o e => hx b o (Nat.ne_of_lt (Heap.lt_size e)) e
  exact h pins _ σ H xs _ Q I1 (by simpa using rv) hw
noncomputable def Ly (to ti : TE) (t : AH) : TG := fun v σ H Q => to σ H fun o H1 => ti σ H1 fun i H2 => t o i v H2 fun H3 => Q σ H3
theorem Fn {o i : Expr} {to ti : TE} {t : AH} (ho : PE X o to) (hi : PE X i ti) (hs : Fl X t)
    (ha : ∀ v, assign (.Subscript o i pos) X.env v = (do
      let ov ← holding [v] (eval o X.env)
      let iv ← holding [v, ov] (eval i X.env)
      standAt pos
      holding [v, ov, iv] (setItem ov iv v)
      release [v, ov, iv] []) := by intro _; rfl) : PG X (.Subscript o i pos) (Ly to ti t) := by
  intro pins s σ H v u Q I r h
  rw [ha]
  refine wpAny_bind (wpAny_holding (thn (ho pins s σ H _ I h) fun ov s1 ⟨x, H1, I1, r1, q1⟩ => ?_))
  refine wpAny_bind (wpAny_holding (thn (hi pins s1 σ H1 _ I1 q1) fun iv s2 ⟨y, H2, I2, r2, q2⟩ => ?_))
  refine wpAny_bind (wpAny_standAt (wpAny_bind (wpAny_holding (thn (hs pins s2 σ H2 x y v ov iv u _ I2 r1 r2 r q2) fun _ s3 ⟨H3, I3, q3⟩ => ?_))))
  exact wpAny_release ⟨σ, H3, I3, q3⟩
noncomputable def pG (te : TE) (g : TG) : TS := fun D σ H => te σ H fun x H1 => g x σ H1 D.nx
theorem Fo {tg e : Expr} {te : TE} {g : TG} (he : PE X e te) (hg : PG X tg g) (hs : swapsWithSole [tg] e pos.line X.env = pure false := by rfl) (hw : swappedStores [tg] e X.env = pure none := by rfl)
    (h1 : (assignEach [tg] X.env).map (·.2) = [assign tg X.env] := by rfl) : PS X (.Assign [tg] e pos) (pG te g) := by
  refine ⟨?_⟩
  intro pins s σ H D I h
  refine wpAny_Assign_stores (thn (he pins s σ H _ I h) fun v s1 ⟨x, H1, I1, r1, q1⟩ => ?_) hs hw
  rw [h1]
  exact thn (hg pins s1 σ H1 x v _ I1 r1 q1) fun _ s2 q => q
theorem Fp {i : Nat} {x : Str} {e : Expr} {te : TE} {pos' : Pos} (hN : X.N.Nodup) (hi : X.N[i]? = some x) (hx : Loc X.env.scope x) (he : PE X e te) (hs : swapsWith e (some (.Name x pos')) pos.line X.env = pure false := by rfl) (hf : X.fn x = true ∨ X.env.scope.names.lookup x = some .local := by first | exact .inl rfl | exact .inr rfl | assumption) :
    PS X (.Assign [.Name x pos'] e pos) (pG te (oi i)) := by
  refine ⟨?_⟩
  intro pins s σ H D I h
  refine wpAny_Assign_Name (thn (he pins s σ H _ I h) fun v s1 ⟨y, H1, I1, r1, q1⟩ => ?_) hs
  exact sd I1 hN hi hx r1 (fun s2 I2 => ⟨_, H1, I2, q1⟩) hf
end
section
variable {X : Cx} {pos : Pos}
noncomputable def xY (c : TT) (tb : TS) : TS := fun D σ H => ∃ W : Nat → St → Hp → Prop, (∃ m, W m σ H) ∧ ∀ m σ H, W m σ H →
  c σ H fun b H1 => if b = true then ∃ N : St → Hp → Prop, (∀ aG H', N aG H' → ∃ m', m' < m ∧ W m' aG H') ∧ tb { D with nx := N, ct := N, bk := D.nx } σ H1 else D.nx σ H1
theorem AJ {c : Expr} {body : List Stmt} {tc : TT} {tb : TS} (hp : PassesOwn (model X.prog X.w) X.A X.env X.xe) (hc : PT X c tc) (hb : fO X body tb) : PS X (.While c body [] pos) (xY tc tb) := by
  refine ⟨?_⟩
  intro pins s σ H D I h
  obtain ⟨W, ⟨m0, w0⟩, turn⟩ := h
  refine wpAny_While (codeAny_whileLoop (fun n s' => ∃ aG H', Inv X pins aG H' s' ∧ W n aG H') ?_ m0 ⟨σ, H, I, w0⟩)
  rintro n s1 ⟨oj, H1, I1, w1⟩
  refine wpAny_passesOwn hp (thn (hc pins s1 oj H1 _ I1 (turn n oj H1 w1)) fun b s2 ⟨H2, I2, q2⟩ => ?_)
  cases b with
  | true =>
    obtain ⟨N, hN, q2⟩ := q2
    rw [if_pos rfl]
    refine wpAny_passesOwn hp (thn (hb pins s2 oj H2 _ I2 q2) fun f s3 q3 => ?_)
    cases f with
    | next =>
      obtain ⟨kI, H3, I3, n3⟩ := q3
      obtain ⟨m', hm, w3⟩ := hN kI H3 n3
      exact ⟨m', hm, kI, H3, I3, w3⟩
    | cont =>
      obtain ⟨kI, H3, I3, n3⟩ := q3
      obtain ⟨m', hm, w3⟩ := hN kI H3 n3
      exact ⟨m', hm, kI, H3, I3, w3⟩
    | brk => exact q3
    | ret v => exact q3
  | false =>
    rw [if_neg Bool.false_ne_true]
    exact wpAny_execs_nil ⟨oj, H2, I2, q2⟩
end
structure It where
  go : Nat → Hp → Prop
  yld : Nat → Hp → V → Hp → Prop
  stop : Nat → Hp → Prop
noncomputable def cY (X : Cx) (pins : List (Addr × Obj)) (H : Hp) (b : Addr) : Prop :=
  H b = none ∧ b ≠ X.env.locals ∧ b ∉ X.fs ∧ (b ∈ X.ex ∨ X.s₀.heap.objs.size ≤ b) ∧ (∀ x c, X.env.cells.lookup x = some c → c ≠ b) ∧ ∀ p ∈ X.pn ++ pins, p.1 ≠ b
theorem Inv.jO {X : Cx} {pins : List (Addr × Obj)} {σ : St} {H H' : Hp} {s : Shared} {b : Addr} (I : Inv X pins σ H s) (hb : s.heap.objs.size ≤ b) (hn : H' b = none) : cY X pins H' b := by
  refine ⟨hn, Nat.ne_of_gt (Nat.lt_of_lt_of_le I.lt hb), I.E4 hb, .inr (Nat.le_trans I.sz hb), fun x c e z => ?_, fun p hp z => ?_⟩
  · obtain ⟨v, q⟩ := I.cell x c e
    exact absurd (Nat.lt_of_lt_of_le q.lt (by rw [z]; exact hb)) (Nat.lt_irrefl _)
  · exact absurd (Nat.lt_of_lt_of_le (Heap.lt_size (I.pin p hp).1) (by rw [z]; exact hb)) (Nat.lt_irrefl _)
structure Turn (P : Program) (w : World) (K : PySem.W.Frag) (tg : Expr) (J : It) (fp : List Addr) (it : Addr) (tn : Nat → Heap → Prop) : Prop where
  mem : it ∈ fp
  obj : ∀ i h, tn i h → ∀ b ∈ fp, ∃ o, h.get? b = some o ∧ ∀ v, o.data ≠ .cell v
  keep : ∀ i h h', tn i h → (∀ b ∈ fp, ∀ o, h.get? b = some o → h'.get? b = some o) → tn i h'
  item : ∀ (X : Cx), X.prog = P → X.w = w → X.K = K → X.calm = true → ∀ (i : Nat) (pins : List (Addr × Obj)) (s : Shared) (σ : St) (H : Hp) (E : Value → Shared → Prop), Inv X pins σ H s → (∀ b ∈ fp, cY X pins H b) → tn i s.heap → J.go i H →
    wpAny (model P w) X.A (pyNext (.ref it)) (fun r s1 => ∃ u, r = some u ∧
      wpAny (model P w) X.A (letOwnedTupleGo tg (.ref it) u) (fun _ s2 => ∃ x H', Inv X pins σ H' s2 ∧ RelV x u ∧ J.yld i H x H' ∧ tn (i + 1) s2.heap ∧ ∀ b ∈ fp, H' b = none) E s1) E s
  done : ∀ (X : Cx), X.prog = P → X.w = w → X.K = K → X.calm = true → ∀ (i : Nat) (pins : List (Addr × Obj)) (s : Shared) (σ : St) (H : Hp) (E : Value → Shared → Prop), Inv X pins σ H s → (∀ b ∈ fp, cY X pins H b) → tn i s.heap → J.stop i H →
    wpAny (model P w) X.A (pyNext (.ref it)) (fun r s1 => r = none ∧ Inv X pins σ H s1) E s
  self : ∀ (A : Around) (i : Nat) (s : Shared) (Q : Value → Shared → Prop) (E : Value → Shared → Prop), tn i s.heap → Q (.ref it) s → wpAny (model P w) A (pyIter (.ref it)) Q E s
noncomputable abbrev TI := St → Hp → (It → Hp → Prop) → Prop
noncomputable def J6 (X : Cx) (pins : List (Addr × Obj)) (σ : St) (tg : Expr) (R : It → Hp → Prop) (sg : Value) (s2 : Shared) : Prop :=
  ∃ (it : Addr) (fp : List Addr) (tn : Nat → Heap → Prop) (J : It) (H' : Hp), sg = .ref it ∧ Inv X pins σ H' s2 ∧ Turn X.prog X.w X.K tg J fp it tn ∧ tn 0 s2.heap ∧ (∀ b ∈ fp, cY X pins H' b) ∧ R J H'
noncomputable def PI (X : Cx) (tg iter : Expr) (wi : TI) : Prop :=
  ∀ (pins : List (Addr × Obj)) (s : Shared) (σ : St) (H : Hp) (R : It → Hp → Prop), Inv X pins σ H s → wi σ H R →
    wpAny (model X.prog X.w) X.A (eval iter X.env) (fun v s1 => wpAny (model X.prog X.w) X.A (pyIter v) (J6 X pins σ tg R) X.xe s1) X.xe s
theorem vV {M : Model} {A : Around} {E : Value → Shared → Prop} {s : Shared} {tg : Expr} {it : Addr} {u : Value} {o : Obj} {n : String} {vs : Array Value} {Q : Unit → Shared → Prop} (ho : s.heap.get? it = some o) (hc : o.cls = .type n) (hd : o.data = .fields vs)
    (hn : ["enumerate", "zip", "dict_itemiterator", "dict_reverseitemiterator", "odict_iterator", "itertools.zip_longest", "itertools.pairwise"].contains n = false) (hQ : Q () s) : wpAny M A (letOwnedTupleGo tg (.ref it) u) Q E s := by
  unfold letOwnedTupleGo
  cases tg <;> first
    | exact wpAny_pure hQ
    | (cases u <;> first
        | exact wpAny_pure hQ
        | (refine wpAny_bind (wpAny_load ho ?_)
           rw [hc, hd]
           show wpAny M A (if (["enumerate", "zip", "dict_itemiterator", "dict_reverseitemiterator", "odict_iterator", "itertools.zip_longest", "itertools.pairwise"].contains n && vs[0]? == some (rawInt _)) = true then _ else _) Q E s
           rw [if_neg (by intro h; rw [hn, Bool.false_and] at h; cases h)]
           exact wpAny_pure hQ))
noncomputable def Fq (K : PySem.W.Frag) (a : Addr) : It :=
  ⟨fun i H => ∃ xs x, bH K H a xs ∧ xs[i]? = some x, fun i H x H' => H' = H ∧ ∀ xs, bH K H a xs → xs[i]? = some x, fun i H => ∃ xs, bH K H a xs ∧ xs.length ≤ i⟩
noncomputable def Fs (K : PySem.W.Frag) (a : Addr) : It :=
  ⟨fun i H => ∃ xs x, cu K H a xs ∧ xs[i]? = some x, fun i H x H' => H' = H ∧ ∀ xs, cu K H a xs → xs[i]? = some x, fun i H => ∃ xs, cu K H a xs ∧ xs.length ≤ i⟩
noncomputable def xZ (lo : Int) (n : Nat) : It := ⟨fun i _ => i < n, fun i H x H' => H' = H ∧ x = .int (lo + i), fun i _ => n ≤ i⟩
theorem ya {P : Program} {w : World} {K : PySem.W.Frag} {tg : Expr} (a it : Addr) : Turn P w K tg (Fq K a) [it] it (fun i h => h.IsListIter it a i) where
  mem := by simp
  obj := fun i h st b hb => by
    have e : b = it := by simpa using hb
    subst e
    obtain ⟨o, e, c, d⟩ := st
    exact ⟨o, e, fun v z => by rw [d] at z; cases z⟩
  keep := fun i h h' st k => st.at fun o e => k it (by simp) o e
  item := by
    intro X hP hw hK hc i pins s σ H E I hf st hg
    subst hP hw hK
    obtain ⟨xs, x, hq, hx⟩ := hg
    obtain ⟨its, rv, p, hz⟩ := I.list hq
    obtain ⟨u, hu, ru⟩ := rv.get hx
    obtain ⟨f0, f1, f2, f3, f4, f5⟩ := hf it (by simp)
    refine wpAny_pyNext_list_item st p.isList (x := u) (by simpa using hu) fun h' qt sb => ?_
    have I1 : Inv X pins σ H { s with heap := h' } := I.turned (t' := s.toks) (fun b o hb e => (sb.2 b hb).trans e) f0 f1 f3 f4 f5
    obtain ⟨o, e, c, d⟩ := id qt
    exact ⟨u, rfl, vV (s := { s with heap := h' }) e c d (by decide) ⟨x, H, I1, ru, ⟨rfl, fun ys hy => by rw [I.sf hy hq]; exact hx⟩, qt, fun b hb => (hf b hb).1⟩⟩
  done := by
    intro X hP hw hK hc i pins s σ H E I hf st hg
    subst hP hw hK
    obtain ⟨xs, hq, hx⟩ := hg
    obtain ⟨its, rv, p, hz⟩ := I.list hq
    obtain ⟨f0, f1, f2, f3, f4, f5⟩ := hf it (by simp)
    have hl := rv.length
    exact wpAny_pyNext_list_end (I.ok.hd hc) st p.isList (by simp; omega) fun h' eb => ⟨rfl, I.turned (t' := s.toks) (fun b o hb e => eb b o hb e) f0 f1 f3 f4 f5⟩
  self := fun _ _ _ _ _ st h => wpAny_pyIter_listiter st h
theorem vW {P : Program} {w : World} {K : PySem.W.Frag} {tg : Expr} (a it : Addr) : Turn P w K tg (Fs K a) [it] it (fun i h => h.IsTupleIter it a i) where
  mem := by simp
  obj := fun i h st b hb => by
    have e : b = it := by simpa using hb
    subst e
    obtain ⟨o, e, c, d⟩ := st
    exact ⟨o, e, fun v z => by rw [d] at z; cases z⟩
  keep := fun i h h' st k => st.at fun o e => k it (by simp) o e
  item := by
    intro X hP hw hK hc i pins s σ H E I hf st hg
    subst hP hw hK
    obtain ⟨xs, x, hq, hx⟩ := hg
    obtain ⟨its, rv, p, hz⟩ := I.tuple hq
    obtain ⟨u, hu, ru⟩ := rv.get hx
    obtain ⟨f0, f1, f2, f3, f4, f5⟩ := hf it (by simp)
    refine wpAny_pyNext_tuple_item st (show s.heap.IsTuple a its.toArray from p) (x := u) (by simpa using hu) fun h' qt sb => ?_
    have I1 : Inv X pins σ H { s with heap := h' } := I.turned (t' := s.toks) (fun b o hb e => (sb.2 b hb).trans e) f0 f1 f3 f4 f5
    obtain ⟨o, e, c, d⟩ := id qt
    exact ⟨u, rfl, vV (s := { s with heap := h' }) e c d (by decide) ⟨x, H, I1, ru, ⟨rfl, fun ys hy => by rw [I.qo hy hq]; exact hx⟩, qt, fun b hb => (hf b hb).1⟩⟩
  done := by
    intro X hP hw hK hc i pins s σ H E I hf st hg
    subst hP hw hK
    obtain ⟨xs, hq, hx⟩ := hg
    obtain ⟨its, rv, p, hz⟩ := I.tuple hq
    obtain ⟨f0, f1, f2, f3, f4, f5⟩ := hf it (by simp)
    have hl := rv.length
    exact wpAny_pyNext_tuple_end (I.ok.hd hc) st (show s.heap.IsTuple a its.toArray from p) (by simp; omega) fun h' eb => ⟨rfl, I.turned (t' := s.toks) (fun b o hb e => eb b o hb e) f0 f1 f3 f4 f5⟩
  self := fun _ _ _ _ _ st h => wpAny_pyIter_tupleiter st h
theorem vX {P : Program} {w : World} {K : PySem.W.Frag} {tg : Expr} (it : Addr) (lo : Int) (n : Nat) : Turn P w K tg (xZ lo n) [it] it (fun i h => IsRangeIter h it (lo + (i : Nat) * 1) ((n : Int) - (i : Nat)) 1) where
  mem := by simp
  obj := fun i h st b hb => by
    have e : b = it := by simpa using hb
    subst e
    exact ⟨_, st, fun v z => by
      have z' : Data.fields _ = Data.cell v := z
      cases z'⟩
  keep := fun i h h' st k => k it (by simp) _ st
  item := by
    intro X hP hw hK hc i pins s σ H E I hf st hg
    subst hP hw hK
    obtain ⟨f0, f1, f2, f3, f4, f5⟩ := hf it (by simp)
    have W := Walks.range (prog := X.prog) (w := X.w) (I.ok.hd hc) it lo 1 n
    refine W.item i s _ _ hg st fun v h' tk hv qt kk => ?_
    obtain ⟨t, rfl⟩ := hv
    have I1 : Inv X pins σ H { s with heap := h', toks := tk } := I.turned (fun b o hb e => kk b o (by simpa using hb) e) f0 f1 f3 f4 f5
    refine ⟨_, rfl, vV (s := { s with heap := h', toks := tk }) (n := "range_iterator") qt rfl rfl (by decide) ⟨.int (lo + i), H, I1, ⟨t, ?_⟩, ⟨rfl, rfl⟩, qt, fun b hb => (hf b hb).1⟩⟩
    rw [Int.mul_one]
  done := by
    intro X hP hw hK hc i pins s σ H E I hf st hg
    subst hP hw hK
    obtain ⟨f0, f1, f2, f3, f4, f5⟩ := hf it (by simp)
    exact wpAny_pyNext_range_end (I.ok.hd hc) st (by have : n ≤ i := hg; omega) fun h' eb => ⟨rfl, I.turned (t' := s.toks) (fun b o hb e => eb b o hb e) f0 f1 f3 f4 f5⟩
  self := fun _ _ _ _ _ st h => wpAny_pyIter_rangeiter st h
section
variable {X : Cx} {tg : Expr}
noncomputable def Cu (K : PySem.W.Frag) (tl : TE) : TI := fun σ H R => tl σ H fun x H1 => ∃ a, x = .ref a ∧ (∃ xs, bH K H1 a xs) ∧ R (Fq K a) H1
noncomputable def Ft (K : PySem.W.Frag) (tl : TE) : TI := fun σ H R => tl σ H fun x H1 => ∃ a, x = .ref a ∧ (∃ xs, cu K H1 a xs) ∧ R (Fs K a) H1
theorem DB {l : Expr} {tl : TE} (hl : PE X l tl) : PI X tg l (Cu X.K tl) := by
  intro pins s σ H R I h
  refine thn (hl pins s σ H _ I h) fun v s1 ⟨x, H1, I1, r1, q1⟩ => ?_
  obtain ⟨a, e, ⟨xs, hq⟩, q⟩ := q1
  subst e
  cases r1
  obtain ⟨its, rv, p, hz⟩ := I1.list hq
  refine wpAny_pyIter_list p.isList ?_
  refine ⟨s1.heap.objs.size, [s1.heap.objs.size], _, _, H1, rfl, I1.kept (t' := s1.toks) fun b o e => Heap.get?_push_of_some _ e, ya a _, ⟨_, Heap.get?_push_size _ rfl, rfl, rfl⟩, fun b hb => ?_, q⟩
  have e : b = s1.heap.objs.size := by simpa using hb
  subst e
  exact I1.jO (Nat.le_refl _) (I1.hok.fresh (Nat.le_refl _))
theorem Fu {l : Expr} {tl : TE} (hl : PE X l tl) : PI X tg l (Ft X.K tl) := by
  intro pins s σ H R I h
  refine thn (hl pins s σ H _ I h) fun v s1 ⟨x, H1, I1, r1, q1⟩ => ?_
  obtain ⟨a, e, ⟨xs, hq⟩, q⟩ := q1
  subst e
  cases r1
  obtain ⟨its, rv, p, hz⟩ := I1.tuple hq
  refine wpAny_pyIter_tuple (show s1.heap.IsTuple a its.toArray from p) ?_
  refine ⟨s1.heap.objs.size, [s1.heap.objs.size], _, _, H1, rfl, I1.kept (t' := s1.toks) fun b o e => Heap.get?_push_of_some _ e, vW a _, ⟨_, Heap.get?_push_size _ rfl, rfl, rfl⟩, fun b hb => ?_, q⟩
  have e : b = s1.heap.objs.size := by simpa using hb
  subst e
  exact I1.jO (Nat.le_refl _) (I1.hok.fresh (Nat.le_refl _))
theorem sh {pins : List (Addr × Obj)} {σ : St} {H : Hp} {s : Shared} {R : It → Hp → Prop} {E : Value → Shared → Prop} {lo hi : Int} {t u v : Tok} {tk : Nat} (I : Inv X pins σ H s) (h1 : -(2 ^ 62) ≤ lo) (h2 : lo < 2 ^ 62) (h3 : -(2 ^ 62) ≤ hi) (h4 : hi < 2 ^ 62)
    (q : R (xZ lo (hi - lo).toNat) H) : wpAny (model X.prog X.w) X.A (pyIter (.ref s.heap.objs.size)) (J6 X pins σ tg R) E { s with heap := s.heap.push { cls := .type "range", data := .fields #[.int lo t, .int hi u, .int 1 v] }, toks := tk } := by
  refine wpAny_pyIter_range (IsRange.new ..) (small_one h1 h2 h3 h4) ?_
  have I1 : Inv X pins σ H { s with heap := s.heap.push { cls := .type "range", data := .fields #[.int lo t, .int hi u, .int 1 v] }, toks := tk } := I.kept fun b o e => Heap.get?_push_of_some _ e
  refine ⟨(s.heap.push { cls := .type "range", data := .fields #[.int lo t, .int hi u, .int 1 v] }).objs.size, [(s.heap.push { cls := .type "range", data := .fields #[.int lo t, .int hi u, .int 1 v] }).objs.size], _, _, H, rfl,
    I1.kept (t' := tk) fun b o e => Heap.get?_push_of_some _ e, vX _ lo (hi - lo).toNat, ?_, fun b hb => ?_, q⟩
  · have e1 : lo + ((0 : Nat) : Int) * 1 = lo := by simp
    have e2 : (((hi - lo).toNat : Nat) : Int) - ((0 : Nat) : Int) = Builtin.Range.rangeSize lo hi 1 := by rw [rangeSize_one]; split <;> omega
    show IsRangeIter _ _ (lo + ((0 : Nat) : Int) * 1) ((((hi - lo).toNat : Nat) : Int) - ((0 : Nat) : Int)) 1
    rw [e1, e2]
    exact Heap.get?_push_size _ rfl
  · have e : b = (s.heap.push { cls := .type "range", data := .fields #[.int lo t, .int hi u, .int 1 v] }).objs.size := by simpa using hb
    subst e
    exact I1.jO (Nat.le_refl _) (I1.hok.fresh (Nat.le_refl _))
noncomputable def Cv (ta : TA) : TI := fun σ H R => ta σ H fun vs H1 => ∃ j : Int, vs = [.int j] ∧ -(2 ^ 62) ≤ j ∧ j < 2 ^ 62 ∧ R (xZ 0 j.toNat) H1
noncomputable def Cw (ta : TA) : TI := fun σ H R => ta σ H fun vs H1 => ∃ i j : Int, vs = [.int i, .int j] ∧ (-(2 ^ 62) ≤ i ∧ i < 2 ^ 62 ∧ -(2 ^ 62) ≤ j ∧ j < 2 ^ 62) ∧ R (xZ i (j - i).toNat) H1
theorem yb {a : Expr} {ta : TA} {p pos : Pos} (hg : Gl X "range") (hm : X.mg "range" = none) (ha : PA X [a] ta) (hs : starEach [a] X.env = [(false, eval a X.env)] := by rfl) : PI X tg (.Call (.Name "range" p) [a] [] pos) (Cv ta) := by
  intro pins s σ H R I h
  refine Call_ (f6 I hg hm boot_range (PyProof.Rows.callWith_type1 (thn (ha pos pins s σ H _ I h) fun us s1 ⟨vs, H1, I1, r1, q1⟩ => ?_) hs rfl))
  obtain ⟨j, e, q1, q2, q⟩ := q1
  subst e
  cases r1 with
  | cons r rr =>
    cases rr
    obtain ⟨t, rfl⟩ := r
    exact call_range_1 (sh I1 (by omega) (by omega) q1 q2 (by simpa using q))
theorem yc {a b : Expr} {ta : TA} {p pos : Pos} (hg : Gl X "range") (hm : X.mg "range" = none) (ha : PA X [a, b] ta) (hs : starEach [a, b] X.env = [(false, eval a X.env), (false, eval b X.env)] := by rfl) (Cy : starEach [b] X.env = [(false, eval b X.env)] := by rfl) :
    PI X tg (.Call (.Name "range" p) [a, b] [] pos) (Cw ta) := by
  intro pins s σ H R I h
  refine Call_ (f6 I hg hm boot_range (PyProof.Rows.callWith_type1 (thn (ha pos pins s σ H _ I h) fun us s1 ⟨vs, H1, I1, r1, q1⟩ => ?_) (by rw [hs, Cy]) (by rw [Cy]; rfl)))
  obtain ⟨i, j, e, ⟨q1, q2, q3, q4⟩, q⟩ := q1
  subst e
  cases r1 with
  | cons r rr =>
    cases rr with
    | cons r' rr =>
      cases rr
      obtain ⟨t, rfl⟩ := r
      obtain ⟨t', rfl⟩ := r'
      exact call_range_2 (sh I1 q1 q2 q3 q4 q)
noncomputable def Fv (wi : TI) (g : TG) (tb : TS) : TS := fun D σ H => wi σ H fun J H1 => ∃ W : Nat → Nat → St → Hp → Prop, (∃ m, W 0 m σ H1) ∧ ∀ i m σ H, W i m σ H →
  (J.stop i H ∧ D.nx σ H) ∨ (J.go i H ∧ ∃ N : St → Hp → Prop, (∀ aG H', N aG H' → ∃ m', m' < m ∧ W (i + 1) m' aG H') ∧ ∀ x H', J.yld i H x H' → g x σ H' fun om H2 => tb { D with nx := N, ct := N, bk := D.nx } om H2)
noncomputable def g6 (fp : List Addr) (h : Heap) : List (Addr × Obj) := fp.filterMap fun b => (h.get? b).map fun o => (b, o)
theorem cA {fp : List Addr} {h : Heap} {b : Addr} {o : Obj} (hb : b ∈ fp) (e : h.get? b = some o) : (b, o) ∈ g6 fp h := List.mem_filterMap.mpr ⟨b, hb, by rw [e]; rfl⟩
theorem ye {fp : List Addr} {h : Heap} {p : Addr × Obj} (hp : p ∈ g6 fp h) : p.1 ∈ fp ∧ h.get? p.1 = some p.2 := by
  obtain ⟨b, hb, e⟩ := List.mem_filterMap.mp hp
  cases q : h.get? b with
  | none => rw [q] at e; cases e
  | some o =>
    rw [q] at e
    have e' : (b, o) = p := Option.some.inj e
    subst e'
    exact ⟨hb, q⟩
theorem Inv.pinned {pins : List (Addr × Obj)} {σ : St} {H : Hp} {s : Shared} {fp : List Addr} (I : Inv X pins σ H s) (hf : ∀ b ∈ fp, cY X pins H b) (ho : ∀ b ∈ fp, ∃ o, s.heap.get? b = some o ∧ ∀ v, o.data ≠ .cell v) : Inv X (pins ++ g6 fp s.heap) σ H s :=
  I.pF fun p hp => (List.mem_append.mp hp).elim (fun z => I.pin p (List.mem_append_right _ z)) fun z => by
    obtain ⟨hb, e⟩ := ye z
    obtain ⟨f0, f1, f2, _⟩ := hf p.1 hb
    obtain ⟨o, e', d⟩ := ho p.1 hb
    rw [e] at e'; cases e'
    exact ⟨e, f0, f1, f2, d⟩
theorem Inv.dR {pins pl : List (Addr × Obj)} {σ : St} {H : Hp} {s : Shared} (I : Inv X (pins ++ pl) σ H s) : Inv X pins σ H s := I.pF fun p hp => I.pin p (List.mem_append_right _ (List.mem_append_left _ hp))
theorem Fw {iter : Expr} {body : List Stmt} {wi : TI} {g : TG} {tb : TS} {pos : Pos} (hp : PassesOwn (model X.prog X.w) X.A X.env X.xe) (hc : X.calm = true) (hi : PI X tg iter wi) (hg : PG X tg g) (hb : fO X body tb)
    (hs : ∀ x, foldedSetIterable iter X.env x = pure x := by intro _; rfl) : PS X (.For tg iter body [] pos) (Fv wi g tb) := by
  refine ⟨?_⟩
  intro pins s σ H D I h
  refine wpAny_For (thn (hi pins s σ H _ I h) fun v s1 h1 => thn h1 fun sg s2 h2 => ?_) hs
  obtain ⟨it, fp, tn, J, H2, e, I2, T, kS, f2, W, ⟨m0, w0⟩, turn⟩ := h2
  subst e
  have stat : ∀ {H' : Hp}, (∀ b ∈ fp, H' b = none) → ∀ b ∈ fp, cY X pins H' b := fun hn b hb => ⟨hn b hb, (f2 b hb).2⟩
  refine codeAny_forLoop_any (fun n s' => ∃ i aG H', Inv X pins aG H' s' ∧ tn i s'.heap ∧ (∀ b ∈ fp, H' b = none) ∧ W i n aG H') ?_ m0 ⟨0, σ, H2, I2, kS, fun b hb => (f2 b hb).1, w0⟩
  rintro n s3 ⟨i, kI, H3, I3, jv, kU, w3⟩
  rcases turn i n kI H3 w3 with ⟨stop, qn⟩ | ⟨go, N, hN, step⟩
  · refine wpAny_passesOwn hp (thn (T.done X rfl rfl rfl hc i pins s3 kI H3 X.xe I3 (stat kU) jv stop) fun r s4 ⟨hr, I4⟩ => ?_)
    subst hr
    exact wpAny_execs_nil ⟨kI, H3, I4, qn⟩
  · refine wpAny_passesOwn hp (thn (T.item X rfl rfl rfl hc i pins s3 kI H3 X.xe I3 (stat kU) jv go) fun r s4 ⟨u, hr, h4⟩ => ?_)
    subst hr
    refine wpAny_passesOwn hp (thn h4 fun _ s5 ⟨x, H5, I5, r5, y5, f9, oo⟩ => ?_)
    have oq := I5.pinned (stat oo) (T.obj _ _ f9)
    refine wpAny_passesOwn hp (thn (hg _ s5 kI H5 x u _ oq r5 (step x H5 y5)) fun _ s6 ⟨MP, H6, I6, q6⟩ => ?_)
    refine wpAny_passesOwn hp (thn (hb _ s6 MP H6 _ I6 q6) fun f s7 q7 => ?_)
    have again : ∀ {kW : St} {H7 : Hp}, Inv X (pins ++ g6 fp s5.heap) kW H7 s7 → N kW H7 → ∃ m, m < n ∧ ∃ i aG H', Inv X pins aG H' s7 ∧ tn i s7.heap ∧ (∀ b ∈ fp, H' b = none) ∧ W i m aG H' := fun {kW H7} I7 n7 => by
      obtain ⟨m', hm, w7⟩ := hN kW H7 n7
      refine ⟨m', hm, i + 1, kW, H7, I7.dR, T.keep _ _ _ f9 fun b hb o e => (I7.pin (b, o) (List.mem_append_right _ (List.mem_append_right _ (cA hb e)))).1, fun b hb => ?_, w7⟩
      obtain ⟨o, e, d⟩ := T.obj _ _ f9 b hb
      exact (I7.pin (b, o) (List.mem_append_right _ (List.mem_append_right _ (cA hb e)))).2.1
    cases f with
    | next => obtain ⟨kW, H7, I7, n7⟩ := q7; exact again I7 n7
    | cont => obtain ⟨kW, H7, I7, n7⟩ := q7; exact again I7 n7
    | brk => obtain ⟨kW, H7, I7, q7⟩ := q7; exact ⟨kW, H7, I7.dR, q7⟩
    | ret v => obtain ⟨x7, kW, H7, I7, r7, q7⟩ := q7; exact ⟨x7, kW, H7, I7.dR, r7, q7⟩
end
noncomputable abbrev R2 := V → V → Hp → VK → Prop
noncomputable def OpR (X : Cx) (f : Value → Value → Sem Value) (r : R2) : Prop :=
  ∀ (pins : List (Addr × Obj)) (s : Shared) (σ : St) (H : Hp) (x y : V) (v u : Value) (Q : VK), Inv X pins σ H s → RelV x v → RelV y u → r x y H Q →
    wpAny (model X.prog X.w) X.A (f v u) (EP X pins σ Q) X.xe s
noncomputable def de (X : Cx) (f : Value) (r : List V → Hp → VK → Prop) : Prop :=
  ∀ (pins : List (Addr × Obj)) (s : Shared) (σ : St) (H : Hp) (xs : List V) (us : List Value) (Q : VK), Inv X pins σ H s → Vals xs us → r xs H Q →
    wpAny (model X.prog X.w) X.A (call f us) (EP X pins σ Q) X.xe s
noncomputable def Lz (X : Cx) (r : V → Hp → (Bool → Hp → Prop) → Prop) : Prop :=
  ∀ (pins : List (Addr × Obj)) (s : Shared) (σ : St) (H : Hp) (x : V) (v : Value) (Q : Bool → Hp → Prop), Inv X pins σ H s → RelV x v → r x H Q →
    wpAny (model X.prog X.w) X.A (truthy v) (TP X pins σ Q) X.xe s
noncomputable def yf (r : R2) (ta tb : TE) : TE := fun σ H Q => ta σ H fun x H1 => tb σ H1 fun y H2 => r x y H2 Q
noncomputable def rI (C : Int → Int → Prop) (g : Int → Int → V) : R2 := fun x y H Q => ∃ i j, x = .int i ∧ y = .int j ∧ C i j ∧ Q (g i j) H
noncomputable def qu (g : Int → Int → V) : R2 := fun x y H Q => ∃ i j, x = .int i ∧ y = .int j ∧ Q (g i j) H
section
variable {X : Cx} {a b c : Expr} {ta tb tc : TE} {pos : Pos}
theorem AK (ha : PE X a ta) (hb : PE X b tb) {pins : List (Addr × Obj)} {s : Shared} {σ : St} {H : Hp} {R : V → V → Hp → Prop} (I : Inv X pins σ H s)
    (h : ta σ H fun x H1 => tb σ H1 fun y H2 => R x y H2) {Q : Value → Shared → Prop} {f : Value → Value → Sem Value}
    (hf : ∀ v u s2 x y H2, Inv X pins σ H2 s2 → RelV x v → RelV y u → R x y H2 → wpAny (model X.prog X.w) X.A (f v u) Q X.xe s2) :
    wpAny (model X.prog X.w) X.A (eval a X.env) (fun v az => wpAny (model X.prog X.w) X.A (eval b X.env) (fun u gI => wpAny (model X.prog X.w) X.A (f v u) Q X.xe gI) X.xe az) X.xe s := by
  refine thn (ha pins s σ H _ I h) fun v s1 ⟨x, H1, I1, r1, q1⟩ => ?_
  refine thn (hb pins s1 σ H1 _ I1 q1) fun u s2 ⟨y, H2, I2, r2, q2⟩ => ?_
  exact hf v u s2 x y H2 I2 r1 r2 q2
theorem IY {op : Operator} {r : R2} (ho : OpR X (binaryOp op) r) (ha : PE X a ta) (hb : PE X b tb) : PE X (.BinOp a op b pos) (yf r ta tb) := by
  refine ⟨?_⟩
  intro pins s σ H Q I h
  exact wpAny_BinOp (AK ha hb I h fun v u s2 x y H2 I2 rx ry q => ho pins s2 σ H2 x y v u Q I2 rx ry q)
theorem Cz {f : Value → Value → Sem Value} {C : Int → Int → Prop} {g : Int → Int → Int}
    (rule : ∀ (i j : Int) (t u : Tok) (s : Shared) (Q : Value → Shared → Prop) (E : Value → Shared → Prop), C i j → Q (.int (g i j) s.toks) { s with toks := s.toks + 1 } → wpAny (model X.prog X.w) X.A (f (.int i t) (.int j u)) Q E s) :
    OpR X f (rI C fun i j => .int (g i j)) := by
  intro pins s σ H x y v u Q I rx ry h
  obtain ⟨i, j, rfl, rfl, hc, q⟩ := h
  obtain ⟨t, rfl⟩ := rx
  obtain ⟨t', rfl⟩ := ry
  exact rule i j t t' s _ _ hc ⟨.int (g i j), H, I.tok _, ⟨_, rfl⟩, q⟩
theorem Fx {f : Value → Value → Sem Value} {g : Int → Int → Int}
    (rule : ∀ (i j : Int) (t u : Tok) (s : Shared) (Q : Value → Shared → Prop) (E : Value → Shared → Prop), Q (.int (g i j) s.toks) { s with toks := s.toks + 1 } → wpAny (model X.prog X.w) X.A (f (.int i t) (.int j u)) Q E s) :
    OpR X f (qu fun i j => .int (g i j)) := by
  intro pins s σ H x y v u Q I rx ry h
  obtain ⟨i, j, rfl, rfl, q⟩ := h
  obtain ⟨t, rfl⟩ := rx
  obtain ⟨t', rfl⟩ := ry
  exact rule i j t t' s _ _ ⟨.int (g i j), H, I.tok _, ⟨_, rfl⟩, q⟩
theorem AO {f : Value → Value → Sem Value} {g : Int → Int → Bool}
    (rule : ∀ (i j : Int) (t u : Tok) (s : Shared) (Q : Value → Shared → Prop) (E : Value → Shared → Prop), Q (.bool (g i j)) s → wpAny (model X.prog X.w) X.A (f (.int i t) (.int j u)) Q E s) :
    OpR X f (qu fun i j => .bl (g i j)) := by
  intro pins s σ H x y v u Q I rx ry h
  obtain ⟨i, j, rfl, rfl, q⟩ := h
  obtain ⟨t, rfl⟩ := rx
  obtain ⟨t', rfl⟩ := ry
  exact rule i j t t' s _ _ ⟨.bl (g i j), H, I, rfl, q⟩
noncomputable def Fy (i j : Int) : Prop := 0 < j ∧ j < 1073741824
noncomputable def FA (i j : Int) : Prop := 0 ≤ j ∧ j ≤ 1000000 ∧ i.natAbs < 2 ^ 64
noncomputable def vY (i j : Int) : Prop := (-(2 ^ 64) < i ∧ i < 2 ^ 64) ∨ (-(2 ^ 64) < j ∧ j < 2 ^ 64)
theorem vY.ok {i j : Int} (h : vY i j) : IntMulOk i j := by
  rcases h with ⟨h1, h2⟩ | ⟨h1, h2⟩
  · exact .of_left (intBits_le_64 h1 h2)
  · exact .of_right (intBits_le_64 h1 h2)
theorem FC : OpR X (binaryOp .Add) (qu fun i j => .int (i + j)) := Fx fun _ _ _ _ _ _ _ q => add_int q
theorem FD : OpR X (binaryOp .Sub) (qu fun i j => .int (i - j)) := Fx fun _ _ _ _ _ _ _ q => sub_int q
theorem FE : OpR X (binaryOp .Mult) (rI vY fun i j => .int (i * j)) := Cz fun _ _ _ _ _ _ _ hc q => mul_int q hc.ok
theorem DC : OpR X (binaryOp .FloorDiv) (rI Fy fun i j => .int (i / j)) := Cz fun i j _ _ _ _ _ hc q => by
  have h1 : (0 : Int) < j := hc.1
  have h2 : j < 1073741824 := hc.2
  exact floordiv_int (by omega) (by rw [Int.fdiv_eq_ediv_of_nonneg i (by omega)]; exact q) (.inl (PyProof.noPylong_small (by omega)))
theorem FG : OpR X (binaryOp .Mod) (rI (fun _ j => 0 < j) fun i j => .int (i % j)) := Cz fun i j _ _ _ _ _ hc q => by
  have h1 : (0 : Int) < j := hc
  exact mod_int' (by omega) (by rw [Int.fmod_eq_emod_of_nonneg i (by omega)]; exact q)
theorem FH : OpR X (binaryOp .Pow) (rI FA fun i j => .int (i ^ j.toNat)) := Cz fun _ _ _ _ _ _ _ hc q => pow_int_small hc.1 hc.2.1 hc.2.2 q
end
noncomputable def AQ : V → V → Bool
  | .ao, .ao => true | .ao, .int _ => true | .int _, .ao => true | .ao, .bl _ => true | .bl _, .ao => true | .ao, .str _ => true | .str _, .ao => true
  | .int _, .int _ => true | .bl _, .bl _ => true | .str _, .str _ => true | .iR _, .iR _ => true
  | .int _, .str _ => true | .str _, .int _ => true | .bl _, .str _ => true | .str _, .bl _ => true
  | _, _ => false
noncomputable def MQ : R2 := fun x y H Q => AQ x y = true ∧ Q (.bl (decide (x = y))) H
noncomputable def MR : R2 := fun x y H Q => AQ x y = true ∧ Q (.bl (!decide (x = y))) H
theorem u9 {i j : Int} : decide (V.int i = V.int j) = (i == j) := by
  rw [Bool.eq_iff_iff]
  simp
theorem yg {i j : Bool} : decide (V.bl i = V.bl j) = (i == j) := by
  rw [Bool.eq_iff_iff]
  simp
theorem va {i j : Str} : decide (V.str i = V.str j) = (i == j) := by
  rw [Bool.eq_iff_iff]
  simp
theorem vb {i j : Array UInt8} : decide (V.iR i = V.iR j) = (i.toList == j.toList) := by
  rw [Bool.eq_iff_iff]
  cases i
  cases j
  simp
section
variable {X : Cx} {a b c : Expr} {ta tb tc : TE} {pos : Pos}
theorem aS {pins : List (Addr × Obj)} {σ : St} {H : Hp} {s : Shared} {Q : VK} {k k' : Bool} (I : Inv X pins σ H s) (q : Q (.bl k) H) (e : k = k') : EP X pins σ Q (.bool k') s := by
  subst e
  exact ⟨.bl k, H, I, rfl, q⟩
theorem IZ : OpR X (compareOp .Eq) MQ := by
  intro pins s σ H x y v u Q I rx ry h
  obtain ⟨hs, q⟩ := h
  cases x with
  | ao =>
    cases rx
    cases y with
    | ao => cases ry; exact PySem.EqNone.eq_none_none (aS I q (by simp))
    | bl j => cases ry; exact PySem.EqNone.eq_none_bool (aS I q (by simp))
    | int j => obtain ⟨t', rfl⟩ := ry; exact PySem.EqNone.eq_none_int (aS I q (by simp))
    | str j => obtain ⟨t', rfl⟩ := ry; exact PySem.EqNone.eq_none_str (aS I q (by simp))
    | _ => exact absurd (show false = true from hs) Bool.false_ne_true
  | bl i =>
    cases rx
    cases y with
    | ao => cases ry; exact PySem.EqNone.eq_bool_none (aS I q (by simp))
    | bl j => cases ry; exact eq_bool (aS I q yg)
    | str j => obtain ⟨t', rfl⟩ := ry; exact PySem.EqMixed.eq_bool_str (aS I q (by simp))
    | _ => exact absurd (show false = true from hs) Bool.false_ne_true
  | int i =>
    obtain ⟨t, rfl⟩ := rx
    cases y with
    | ao => cases ry; exact PySem.EqNone.eq_int_none (aS I q (by simp))
    | int j => obtain ⟨t', rfl⟩ := ry; exact eq_int (aS I q u9)
    | str j => obtain ⟨t', rfl⟩ := ry; exact PySem.EqMixed.eq_int_str (aS I q (by simp))
    | _ => exact absurd (show false = true from hs) Bool.false_ne_true
  | str i =>
    obtain ⟨t, rfl⟩ := rx
    cases y with
    | ao => cases ry; exact PySem.EqNone.eq_str_none (aS I q (by simp))
    | bl j => cases ry; exact PySem.EqMixed.eq_str_bool (aS I q (by simp))
    | int j => obtain ⟨t', rfl⟩ := ry; exact PySem.EqMixed.eq_str_int (aS I q (by simp))
    | str j => obtain ⟨t', rfl⟩ := ry; exact eq_str (aS I q va)
    | _ => exact absurd (show false = true from hs) Bool.false_ne_true
  | iR i =>
    obtain ⟨t, rfl⟩ := rx
    cases y with
    | iR j => obtain ⟨t', rfl⟩ := ry; exact PySem.W.eq_bytes (aS I q vb)
    | _ => exact absurd (show false = true from hs) Bool.false_ne_true
  | _ => cases y <;> exact absurd (show false = true from hs) Bool.false_ne_true
theorem Ja : OpR X (compareOp .NotEq) MR := by
  intro pins s σ H x y v u Q I rx ry h
  obtain ⟨hs, q⟩ := h
  cases x with
  | ao =>
    cases rx
    cases y with
    | ao => cases ry; exact PySem.EqNone.ne_none_none (aS I q (by simp))
    | bl j => cases ry; exact PySem.EqNone.ne_none_bool (aS I q (by simp))
    | int j => obtain ⟨t', rfl⟩ := ry; exact PySem.EqNone.ne_none_int (aS I q (by simp))
    | str j => obtain ⟨t', rfl⟩ := ry; exact PySem.EqNone.ne_none_str (aS I q (by simp))
    | _ => exact absurd (show false = true from hs) Bool.false_ne_true
  | bl i =>
    cases rx
    cases y with
    | ao => cases ry; exact PySem.EqNone.ne_bool_none (aS I q (by simp))
    | bl j => cases ry; exact ne_bool (aS I q (congrArg not yg))
    | str j => obtain ⟨t', rfl⟩ := ry; exact PySem.EqMixed.ne_bool_str (aS I q (by simp))
    | _ => exact absurd (show false = true from hs) Bool.false_ne_true
  | int i =>
    obtain ⟨t, rfl⟩ := rx
    cases y with
    | ao => cases ry; exact PySem.EqNone.ne_int_none (aS I q (by simp))
    | int j => obtain ⟨t', rfl⟩ := ry; exact ne_int (aS I q (congrArg not u9))
    | str j => obtain ⟨t', rfl⟩ := ry; exact PySem.EqMixed.ne_int_str (aS I q (by simp))
    | _ => exact absurd (show false = true from hs) Bool.false_ne_true
  | str i =>
    obtain ⟨t, rfl⟩ := rx
    cases y with
    | ao => cases ry; exact PySem.EqNone.ne_str_none (aS I q (by simp))
    | bl j => cases ry; exact PySem.EqMixed.ne_str_bool (aS I q (by simp))
    | int j => obtain ⟨t', rfl⟩ := ry; exact PySem.EqMixed.ne_str_int (aS I q (by simp))
    | str j => obtain ⟨t', rfl⟩ := ry; exact ne_str (aS I q (congrArg not va))
    | _ => exact absurd (show false = true from hs) Bool.false_ne_true
  | iR i =>
    obtain ⟨t, rfl⟩ := rx
    cases y with
    | iR j => obtain ⟨t', rfl⟩ := ry; exact PySem.W.ne_bytes (aS I q (congrArg not vb))
    | _ => exact absurd (show false = true from hs) Bool.false_ne_true
  | _ => cases y <;> exact absurd (show false = true from hs) Bool.false_ne_true
theorem Jb : OpR X (compareOp .Lt) (qu fun i j => .bl (decide (i < j))) := AO fun _ _ _ _ _ _ _ q => lt_int q
theorem Jc : OpR X (compareOp .LtE) (qu fun i j => .bl (decide (i ≤ j))) := AO fun _ _ _ _ _ _ _ q => le_int q
theorem Jd : OpR X (compareOp .Gt) (qu fun i j => .bl (decide (j < i))) := AO fun _ _ _ _ _ _ _ q => gt_int q
theorem FI : OpR X (compareOp .Is) (fun x y H Q => y = .ao ∧ Q (.bl (decide (x = .ao))) H) := by
  intro pins s σ H x y v u Q I rx ry h
  obtain ⟨rfl, q⟩ := h
  cases ry
  refine is_none_gen (aS I q ?_)
  cases x <;> first
    | (cases rx; rfl)
    | (obtain ⟨t, rfl⟩ := rx; rfl)
theorem DE : OpR X (compareOp .IsNot) (fun x y H Q => y = .ao ∧ Q (.bl (!decide (x = .ao))) H) := by
  intro pins s σ H x y v u Q I rx ry h
  obtain ⟨rfl, q⟩ := h
  cases ry
  refine isnot_none_gen (aS I q ?_)
  cases x <;> first
    | (cases rx; rfl)
    | (obtain ⟨t, rfl⟩ := rx; rfl)
theorem bE (b : Expr) {op : CmpOp} (h : op ≠ .In := by decide) (h2 : op ≠ .NotIn := by decide) : behindInMarks op b = false := by
  have e1 : (op == CmpOp.In) = false := by cases op <;> first | rfl | exact absurd rfl h
  have e2 : (op == CmpOp.NotIn) = false := by cases op <;> first | rfl | exact absurd rfl h2
  cases b <;> simp [behindInMarks, e1, e2]
theorem DF {op : CmpOp} {r : R2} (ho : OpR X (compareOp op) r) (ha : PE X a ta) (hb : PE X b tb) (hm : behindInMarks op b = false) : PE X (.Compare a [op] [b] pos) (yf r ta tb) := by
  refine ⟨?_⟩
  intro pins s σ H Q I h
  exact wpAny_Compare1 (AK ha hb I h fun v u s2 x y H2 I2 rx ry q => ho pins s2 σ H2 x y v u Q I2 rx ry q) hm
noncomputable def vZ (t : TE) : TT := fun σ H Q => t σ H fun x H' => ∃ k, x = .bl k ∧ Q k H'
theorem DG {op : CmpOp} {r : R2} (ho : OpR X (compareOp op) r) (ha : PE X a ta) (hb : PE X b tb) (hm : behindInMarks op b = false) : PT X (.Compare a [op] [b] pos) (vZ (yf r ta tb)) := by
  refine ⟨?_⟩
  intro pins s σ H Q I h
  refine wpAny_isTrue_Compare1 (thn (ha pins s σ H _ I h) fun v s1 ⟨x, H1, I1, r1, q1⟩ => thn (hb pins s1 σ H1 _ I1 q1) fun u s2 ⟨y, H2, I2, r2, q2⟩ =>
    thn (ho pins s2 σ H2 x y v u _ I2 r1 r2 q2) fun c s3 ⟨z, H3, I3, r3, k, e, q3⟩ => ?_) hm
  subst e
  cases r3
  exact wpAny_truthy_bool ⟨H3, I3, q3⟩
noncomputable def si (r r' : R2) (ta tb tc : TE) : TE := fun σ H Q => ta σ H fun x H1 => tb σ H1 fun y H2 => r x y H2 fun z H3 => ∃ k, z = .bl k ∧
  (if k = true then tc σ H3 fun w' H4 => r' y w' H4 Q else Q (.bl false) H3)
theorem AR {op iV : CmpOp} {r r' : R2} (ho : OpR X (compareOp op) r) (gB : OpR X (compareOp iV) r') (ha : PE X a ta) (hb : PE X b tb) (hc : PE X c tc)
    (hm : lastMarks [op, iV] [b, c] = false := by with_unfolding_all rfl) : PE X (.Compare a [op, iV] [b, c] pos) (si r r' ta tb tc) := by
  refine ⟨?_⟩
  intro pins s σ H Q I h
  refine Compare_chain (thn (ha pins s σ H _ I h) fun v s1 ⟨x, H1, I1, r1, q1⟩ => chain_link (thn (hb pins s1 σ H1 _ I1 q1) fun u s2 ⟨y, H2, I2, r2, q2⟩ =>
    thn (ho pins s2 σ H2 x y v u _ I2 r1 r2 q2) fun d s3 ⟨z, H3, I3, r3, k, e, q3⟩ => ?_)) hm
  subst e
  cases r3
  refine wpAny_truthy_bool ?_
  cases k with
  | false => exact ite_ff ⟨.bl false, H3, I3, rfl, q3⟩
  | true => exact ite_tt (chain_last (thn (hc pins s3 σ H3 _ I3 q3) fun w' s4 ⟨z', H4, I4, r4, q4⟩ => gB pins s4 σ H4 y z' u w' Q I4 r2 r4 q4))
theorem AU {op iV : CmpOp} {r r' : R2} (ho : OpR X (compareOp op) r) (gB : OpR X (compareOp iV) r') (ha : PE X a ta) (hb : PE X b tb) (hc : PE X c tc)
    (hm : lastMarks [op, iV] [b, c] = false := by with_unfolding_all rfl) : PT X (.Compare a [op, iV] [b, c] pos) (vZ (si r r' ta tb tc)) := by
  refine ⟨?_⟩
  intro pins s σ H Q I h
  refine isTrue_chain (thn (ha pins s σ H _ I h) fun v s1 ⟨x, H1, I1, r1, q1⟩ => test_link (thn (hb pins s1 σ H1 _ I1 q1) fun u s2 ⟨y, H2, I2, r2, q2⟩ =>
    thn (ho pins s2 σ H2 x y v u _ I2 r1 r2 q2) fun d s3 ⟨z, H3, I3, r3, k, e, q3⟩ => ?_)) hm
  subst e
  cases r3
  refine wpAny_truthy_bool ?_
  cases k with
  | false =>
    obtain ⟨k', e', q'⟩ := q3
    cases e'
    exact ite_ff ⟨H3, I3, q'⟩
  | true =>
    refine ite_tt (test_last (thn (hc pins s3 σ H3 _ I3 q3) fun w' s4 ⟨z', H4, I4, r4, q4⟩ => thn (gB pins s4 σ H4 y z' u w' _ I4 r2 r4 q4) fun d' s5 ⟨z2, H5, I5, r5, k2, e2, q5⟩ => ?_))
    subst e2
    cases r5
    exact wpAny_truthy_bool ⟨H5, I5, q5⟩
noncomputable def AV (K : PySem.W.Frag) (x : V) (H : Hp) (k : Bool) : Prop :=
  match x with
  | .ao => k = false
  | .bl b => k = b
  | .int i => k = (i != 0)
  | .str y => y.length ≤ sizeLine ∧ k = ((y.length : Int) != 0)
  | .iR y => y.size ≤ sizeLine ∧ k = ((y.size : Int) != 0)
  | .ref p => (∃ xs, bH K H p xs ∧ k = !xs.isEmpty) ∨ (∃ xs, cu K H p xs ∧ k = !xs.isEmpty) ∨ ∃ aq, H p = some (.dK aq) ∧ k = !aq.isEmpty
  | _ => False
theorem v3 {κ : Type} {aq : List (κ × V)} {vs : List (κ × Value)} (r : KV aq vs) : (!vs.isEmpty) = !aq.isEmpty := by
  cases r <;> rfl
theorem ou {xs : List V} {its : List Value} (r : Vals xs its) : (!its.toArray.isEmpty) = !xs.isEmpty := by
  cases r <;> simp
theorem jU : (sizeLine : Nat) < 2 ^ 63 := by rw [sizeLine_eq]; decide
theorem FJ : Lz X (fun x H Q => ∃ k, AV X.K x H k ∧ Q k H) := by
  intro pins s σ H x v Q I rx h
  obtain ⟨k, e, q⟩ := h
  have hl := jU
  have hs : sizeLine = 16777216 := sizeLine_eq
  cases x with
  | ao =>
    cases rx
    have e' : k = false := e
    subst e'
    exact truthy_none ⟨H, I, q⟩
  | bl b =>
    cases rx
    have e' : k = b := e
    subst e'
    exact wpAny_truthy_bool ⟨H, I, q⟩
  | int i =>
    obtain ⟨t, rfl⟩ := rx
    have e' : k = (i != 0) := e
    subst e'
    exact PySem.P.truthy_int ⟨H, I, q⟩
  | str y =>
    obtain ⟨t, rfl⟩ := rx
    obtain ⟨hy, e'⟩ : y.length ≤ sizeLine ∧ k = ((y.length : Int) != 0) := e
    subst e'
    exact PySem.P.truthy_str (by omega) ⟨H, I.tok _, q⟩
  | iR y =>
    obtain ⟨t, rfl⟩ := rx
    obtain ⟨hy, e'⟩ : y.size ≤ sizeLine ∧ k = ((y.size : Int) != 0) := e
    subst e'
    exact PySem.W.truthy_bytes (by omega) ⟨H, I.tok _, q⟩
  | ref p =>
    cases rx
    have e' : (∃ xs, bH X.K H p xs ∧ k = !xs.isEmpty) ∨ (∃ xs, cu X.K H p xs ∧ k = !xs.isEmpty) ∨ ∃ aq, H p = some (.dK aq) ∧ k = !aq.isEmpty := e
    rcases e' with ⟨xs, hx, e'⟩ | ⟨xs, hx, e'⟩ | ⟨aq, hx, e'⟩
    · subst e'
      obtain ⟨its, r, pl, hz⟩ := I.list hx
      have hlen := r.length
      exact wpAny_truthy_list pl.isList (by simp only [List.size_toArray]; omega) ⟨H, I.tok _, by rw [ou r]; exact q⟩
    · subst e'
      obtain ⟨its, r, pl, hz⟩ := I.tuple hx
      have hlen := r.length
      exact truthy_tuple pl (by simp only [List.size_toArray]; omega) ⟨H, I.tok _, by rw [ou r]; exact q⟩
    · subst e'
      obtain ⟨hz, hS, vs, r, m⟩ : aq.length ≤ sizeLine ∧ (p == sysModules) = false ∧ ∃ vs, KV aq vs ∧ s.heap.DictOf (bO X.prog X.w) p vs := I.hok p _ hx
      have hlen : aq.length = vs.length := Paired.length r
      exact wpAny_truthy_dict hS m (by omega) ⟨H, I.tok _, by rw [v3 r]; exact q⟩
  | _ => exact (show False from e).elim
theorem AW (ha : PE X a ta) (he : ∀ whole, isTrue a X.env whole = (do let v ← whole; standAt a.pos; holding [v] (truthy v))) :
    PT X a (fun σ H Q => ta σ H fun x H' => ∃ k, AV X.K x H' k ∧ Q k H') := by
  refine ⟨?_⟩
  intro pins s σ H Q I h
  exact isTrue_plain (thn (ha pins s σ H _ I h) fun v s1 ⟨x, H1, I1, r1, q1⟩ => FJ pins s1 σ H1 x v Q I1 r1 q1) (he _)
theorem v7 : OpR X (binaryOp .Add) (fun x y H Q => ∃ i j, x = .str i ∧ y = .str j ∧ i.length + j.length ≤ sizeLine ∧ Q (.str (i ++ j)) H) := by
  intro pins s σ H x y v u Q I rx ry h
  obtain ⟨i, j, rfl, rfl, hz, q⟩ := h
  obtain ⟨t, rfl⟩ := rx
  obtain ⟨t', rfl⟩ := ry
  exact add_str (fun t' tk => ⟨.str (i ++ j), H, I.tok _, ⟨_, rfl⟩, q⟩) hz
theorem vals1 {x : V} {us : List Value} (r : Vals [x] us) : ∃ u, us = [u] ∧ RelV x u := by
  cases r with
  | cons r1 r2 => cases r2; exact ⟨_, rfl, r1⟩
theorem vals2 {x y : V} {us : List Value} (r : Vals [x, y] us) : ∃ u w', us = [u, w'] ∧ RelV x u ∧ RelV y w' := by
  cases r with
  | cons r1 r2 =>
    cases r2 with
    | cons r3 r4 => cases r4; exact ⟨_, _, rfl, r1, r3⟩
theorem AX : de X (.builtin "abs") (fun xs H Q => ∃ i, xs = [.int i] ∧ Q (.int (if i < 0 then -i else i)) H) := by
  intro pins s σ H xs us Q I r h
  obtain ⟨i, rfl, q⟩ := h
  obtain ⟨u, rfl, t, rfl⟩ := vals1 r
  exact call_abs_int fun u tk => ⟨.int (if i < 0 then -i else i), H, I.tok _, ⟨_, rfl⟩, q⟩
theorem yh (hc : X.calm = true) : de X (.builtin "max") (fun xs H Q => ∃ i j, xs = [.int i, .int j] ∧ Q (.int (if j > i then j else i)) H) := by
  intro pins s σ H xs us Q I r h
  obtain ⟨i, j, rfl, q⟩ := h
  obtain ⟨u, w', rfl, ⟨t, rfl⟩, ⟨t', rfl⟩⟩ := vals2 r
  refine max_two_ints (I.ok.hd hc) fun h' tk k => ⟨_, H, I.kept k, ?_, q⟩
  by_cases hj : j > i
  · rw [if_pos hj, if_pos hj]; exact ⟨_, rfl⟩
  · rw [if_neg hj, if_neg hj]; exact ⟨_, rfl⟩
theorem yi (hc : X.calm = true) : de X (.builtin "min") (fun xs H Q => ∃ i j, xs = [.int i, .int j] ∧ Q (.int (if j < i then j else i)) H) := by
  intro pins s σ H xs us Q I r h
  obtain ⟨i, j, rfl, q⟩ := h
  obtain ⟨u, w', rfl, ⟨t, rfl⟩, ⟨t', rfl⟩⟩ := vals2 r
  refine min_two_ints (I.ok.hd hc) fun h' tk k => ⟨_, H, I.kept k, ?_, q⟩
  by_cases hj : j < i
  · rw [if_pos hj, if_pos hj]; exact ⟨_, rfl⟩
  · rw [if_neg hj, if_neg hj]; exact ⟨_, rfl⟩
noncomputable def FK (K : PySem.W.Frag) (x : V) (H : Hp) (n : Nat) : Prop :=
  match x with
  | .str y => y.length ≤ sizeLine ∧ n = y.length
  | .iR y => y.size ≤ sizeLine ∧ n = y.size
  | .ref p => (∃ xs, bH K H p xs ∧ n = xs.length) ∨ ∃ xs, cu K H p xs ∧ n = xs.length
  | _ => False
theorem AY : de X (.builtin "len") (fun xs H Q => ∃ x n, xs = [x] ∧ FK X.K x H n ∧ Q (.int n) H) := by
  intro pins s σ H xs us Q I r h
  obtain ⟨x, n, rfl, e, q⟩ := h
  obtain ⟨u, rfl, rx⟩ := vals1 r
  have hl := jU
  have hs : sizeLine = 16777216 := sizeLine_eq
  cases x with
  | str y =>
    obtain ⟨t, rfl⟩ := rx
    obtain ⟨hy, e'⟩ : y.length ≤ sizeLine ∧ n = y.length := e
    subst e'
    exact len_str (by omega) ⟨.int _, H, I.tok _, ⟨_, rfl⟩, q⟩
  | iR y =>
    obtain ⟨t, rfl⟩ := rx
    obtain ⟨hy, e'⟩ : y.size ≤ sizeLine ∧ n = y.size := e
    subst e'
    exact PySem.W.len_bytes (by omega) ⟨.int _, H, I.tok _, ⟨_, rfl⟩, q⟩
  | ref p =>
    cases rx
    have e' : (∃ xs, bH X.K H p xs ∧ n = xs.length) ∨ ∃ xs, cu X.K H p xs ∧ n = xs.length := e
    rcases e' with ⟨xs, hx, e'⟩ | ⟨xs, hx, e'⟩
    · subst e'
      obtain ⟨its, r', pl, hz⟩ := I.list hx
      have hlen := r'.length
      exact Calls.call_len_list pl.isList (by simp only [List.size_toArray]; omega) ⟨.int xs.length, H, I.tok _, ⟨_, by simp only [List.size_toArray]; rw [hlen]⟩, q⟩
    · subst e'
      obtain ⟨its, r', pl, hz⟩ := I.tuple hx
      have hlen := r'.length
      exact len_tuple pl (by simp only [List.size_toArray]; omega) ⟨.int xs.length, H, I.tok _, ⟨_, by simp only [List.size_toArray]; rw [hlen]⟩, q⟩
  | _ => exact (show False from e).elim
end
structure AZ (h : Heap) (x dx C : Addr) (mA : Str → Option Value) : Prop where
  obj : h.get? x = some (PySem.W.instObj C dx)
  ns : h.Ns1 dx mA
  ne : dx ≠ x
theorem yj {h : Heap} {dx : Addr} {mA : Str → Option Value} (n : h.Ns1 dx mA) : ∃ od, h.get? dx = some od ∧ ∀ name, PySem.W.lookIn name od = some (mA name) := by
  obtain ⟨o, es, ep, ho, hd, hk, _, hm⟩ := n
  refine ⟨o, ho, fun name => ?_⟩
  have e := hm name
  unfold nsFind findBy at e
  rw [← Array.find?_toList] at e
  unfold PySem.W.lookIn
  rw [hd]
  dsimp only
  split
  · rename_i y q
    rw [q] at e
    exact congrArg some e
  · rename_i q
    rw [q] at e
    have a : es.toList.any (·.refKey) = false := by
      rw [List.any_eq_false]
      intro y hy
      obtain ⟨z, t, v8⟩ := hk y (Array.mem_toList_iff.mp hy)
      simp [DictEntry.refKey, v8]
    have a' : ¬ es.toList.any (·.refKey) = true := by rw [a]; exact Bool.false_ne_true
    rw [if_neg a']
    exact congrArg some e
theorem AZ.look {h : Heap} {x dx C : Addr} {mA : Str → Option Value} (I : AZ h x dx C mA) : ∃ od, PySem.W.InstAt h x (PySem.W.instObj C dx) C (some od) ∧ ∀ name, PySem.W.lookIn name od = some (mA name) :=
  let ⟨od, ho, hl⟩ := yj I.ns
  ⟨od, ⟨I.obj, rfl, rfl, ho⟩, hl⟩
theorem iS.some_of {v : V} {o : Option Value} (r : iS (some v) o) : ∃ u, o = some u ∧ RelV v u := by
  cases o with
  | none => exact (show False from r).elim
  | some u => exact ⟨u, rfl, r⟩
section
variable {P : Program} {w : World} {H H' : Hp} {h h' : Heap} {a C dx : Addr} {fs MM : List (Str × V)}
theorem DH (hok : cp P w H h) (e : H a = some (.ins C dx fs)) : ∃ mA, AZ h a dx C mA ∧ (∀ f, iS (fs.lookup f) (mA f)) ∧ PySem.Within mA (fs.map (·.1)) ∧ fs.length ≤ 1000 ∧ H dx = some (.own a) := by
  obtain ⟨d, z, ne, ob, mA, n, r, q⟩ := (show ObjOk P w H h a (.ins C dx fs) from hok a _ e)
  exact ⟨mA, ⟨ob, n, ne⟩, r, q, z, d⟩
end
structure FL (K : PySem.W.Frag) (C : Addr) : Prop where
  pg : PySem.W.plainGet K C Str.empty = true
  hd : PySem.W.hasDictIn K C = true
  po : PySem.W.plainOver K C = true
  sa : PySem.W.findIn K (.ref C) "__setattr__" = some (some (.builtin "object.__setattr__"))
theorem FL.get {K : PySem.W.Frag} {C : Addr} (c : FL K C) (f : Str) : PySem.W.plainGet K C f = true := c.pg
section
variable {X : Cx} {pins : List (Addr × Obj)} {σ : St} {H : Hp} {s : Shared} {A : Around} {E : Value → Shared → Prop} {Q : Value → Shared → Prop} {c : Value} {b : Bool}
inductive fy (K : PySem.W.Frag) (H : Hp) : V → Value → Prop where
  | ao : fy K H .ao (.type "NoneType")
  | bl (x : Bool) : fy K H (.bl x) (.type "bool")
  | int (i : Int) : fy K H (.int i) (.type "int")
  | str (x : Str) : fy K H (.str x) (.type "str")
  | u0 (x : UInt64) : fy K H (.u0 x) (.type "float")
  | lst {a : Addr} {xs : List V} (e : H a = some (.lst xs)) : fy K H (.ref a) (.type "list")
  | bD {a : Addr} {o : Obj} {xs : List V} (e : H a = some (.bD o (.lst xs))) : fy K H (.ref a) (.type "list")
  | tup {a : Addr} {xs : List V} (e : H a = some (.tup xs)) : fy K H (.ref a) (.type "tuple")
  | dK {a : Addr} {aq : List (Key × V)} (e : H a = some (.dK aq)) : fy K H (.ref a) (.type "dict")
  | dT {a : Addr} {aq : List (List Key × V)} (e : H a = some (.dT aq)) : fy K H (.ref a) (.type "dict")
  | ins {a C dx : Addr} {fs : List (Str × V)} (e : H a = some (.ins C dx fs)) (cl : FL K C) (ha : PySem.W.findIn K (.ref C) "__class__" = some (some (.builtin "object.__class__")))
      (hn : PySem.W.specialIn K (.builtin "object.__class__") "__get__" = some (some (.builtin "getset_descriptor.__get__"))) (J7 : PySem.W.takesIn K (.builtin "object.__class__") = some true)
      (hm : PySem.W.mroIn K C (.type "object") = some true) : fy K H (.ref a) (.ref C)
theorem yk {x : V} {u t : Value} (I : Inv X pins σ H s) (rx : RelV x u) (ty : fy X.K H x t) (e : PySem.W.kitOne X.K t c = some b) (h : ∀ tk, Q (.bool b) { s with toks := tk }) :
    wpAny (model X.prog X.w) A (call (.builtin "isinstance") [u, c]) Q E s := by
  cases ty with
  | ao => cases (show u = Value.none from rx); exact PySem.W.kia_one PySem.W.kitx_none I.fZ True.intro e (fun z => nomatch z) h
  | bl y => cases (show u = Value.bool y from rx); exact PySem.W.kia_one PySem.W.kitx_bool I.fZ True.intro e (fun z => nomatch z) h
  | int i => obtain ⟨t, q⟩ := (show ∃ t, u = Value.int i t from rx); cases q; exact PySem.W.kia_one PySem.W.kitx_int I.fZ True.intro e (fun z => nomatch z) h
  | str y => obtain ⟨t, q⟩ := (show ∃ t, u = Value.str y t from rx); cases q; exact PySem.W.kia_one PySem.W.kitx_str I.fZ True.intro e (fun z => nomatch z) h
  | u0 y => obtain ⟨t, q⟩ := (show ∃ t, u = Value.float y t from rx); cases q; exact PySem.W.kia_one PySem.W.kitx_float I.fZ True.intro e (fun z => nomatch z) h
  | @lst a xs ea =>
    cases (show u = Value.ref a from rx)
    obtain ⟨_, _, n, _, h1⟩ := (show ObjOk X.prog X.w H s.heap a (.lst xs) from I.hok a _ ea)
    exact PySem.W.kia_one PySem.W.kitx_list I.fZ ⟨_, h1, rfl⟩ e (fun z => nomatch z) h
  | @bD a ob xs ea =>
    cases (show u = Value.ref a from rx)
    obtain ⟨_, _, _, n, _, h1⟩ := (show ObjOk X.prog X.w H s.heap a (.bD ob (.lst xs)) from I.hok a _ ea)
    exact PySem.W.kia_one PySem.W.kitx_list I.fZ ⟨_, h1, rfl⟩ e (fun z => nomatch z) h
  | @tup a xs ea =>
    cases (show u = Value.ref a from rx)
    obtain ⟨_, _, _, p⟩ := (show ObjOk X.prog X.w H s.heap a (.tup xs) from I.hok a _ ea)
    obtain ⟨o, h1, h2, _⟩ := p
    exact PySem.W.kia_one PySem.W.kitx_tuple I.fZ ⟨o, h1, h2⟩ e (fun z => nomatch z) h
  | @dK a aq ea =>
    cases (show u = Value.ref a from rx)
    obtain ⟨_, _, vs, _, p⟩ := (show ObjOk X.prog X.w H s.heap a (.dK aq) from I.hok a _ ea)
    obtain ⟨o, es, ep, h1, h2, _⟩ := p
    exact PySem.W.kia_one PySem.W.kitx_dict I.fZ ⟨o, h1, h2.1⟩ e (fun z => nomatch z) h
  | @dT a aq ea =>
    cases (show u = Value.ref a from rx)
    obtain ⟨_, _, xs, _, o, es, ep, h1, h2, _⟩ := (show ObjOk X.prog X.w H s.heap a (.dT aq) from I.hok a _ ea)
    exact PySem.W.kia_one PySem.W.kitx_dict I.fZ ⟨o, h1, h2.1⟩ e (fun z => nomatch z) h
  | @ins a C dx fs ea cl ha hn J7 hm =>
    cases (show u = Value.ref a from rx)
    obtain ⟨mA, O, _⟩ := DH I.hok ea
    obtain ⟨od, J, _⟩ := O.look
    exact PySem.W.kia_one (PySem.W.kitx_own (cl.get _) cl.hd ha hn J7 hm) I.fZ J e (fun z => nomatch z) h
end
structure bL (k : Nat) (A : Around) : Prop where
  hd : A.handled = none
  dp : A.depth + 3 * k + 5 < recursionLimit
  un : A.units + 16 * k + 200 < cLine
theorem bL.mono {j k : Nat} {A : Around} (r : bL k A) (h : j ≤ k) : bL j A := ⟨r.hd, by have := r.dp; omega, by have := r.un; omega⟩
theorem bL.deeper {k : Nat} {A : Around} (r : bL (k + 1) A) (env : Env) : bL k (A.deeper env) :=
  ⟨r.hd, by have := r.dp; show A.depth + 1 + 3 * k + 5 < _; omega, by have := r.un; show A.units + 3 + 16 * k + 200 < _; omega⟩
theorem bL.depth {k : Nat} {A : Around} (r : bL k A) : A.depth < recursionLimit := by have := r.dp; omega
theorem bL.units {k : Nat} {A : Around} (r : bL k A) : A.units + 64 < cLine := by have := r.un; omega
noncomputable def LA : TA := fun _ H Q => Q [] H
noncomputable def Je (ta : TE) (tr : TA) : TA := fun σ H Q => ta σ H fun x H1 => tr σ H1 fun xs H2 => Q (x :: xs) H2
section
variable {X : Cx} {e : Expr} {es : List Expr} {te : TE} {t : TA} {pos : Pos}
theorem FN : PA X [] LA := ⟨fun _ _ _ _ H Q I h => Calls.spliced_nil ⟨[], H, I, .nil, h⟩⟩
theorem mB (ha : PE X e te) (hr : PA X es t) (hs : starEach (e :: es) X.env = (false, eval e X.env) :: starEach es X.env := by rfl) : PA X (e :: es) (Je te t) := by
  refine ⟨?_⟩
  intro pos pins s σ H Q I h
  rw [hs]
  show wpAny _ _ (spliced ((false, eval e X.env) :: backTo pos (starEach es X.env))) _ _ s
  refine Calls.spliced_cons (thn (ha pins s σ H _ I h) fun u s1 ⟨x, H1, I1, r1, q1⟩ => ?_)
  exact thn (hr pos pins s1 σ H1 _ I1 q1) fun us s2 ⟨xs, H2, I2, r2, q2⟩ => ⟨x :: xs, H2, I2, .cons r1 r2, q2⟩
noncomputable def LC (t : TA) : TE := fun σ H Q => t σ H fun xs H1 => xs.length ≤ sizeLine ∧ ∀ p, H1 p = none → Q (.ref p) (upd H1 p (.tup xs))
noncomputable def LD (t : TA) : TE := fun σ H Q => t σ H fun xs H1 => xs.length ≤ sizeLine ∧ ∀ p, H1 p = none → Q (.ref p) (upd H1 p (.lst xs))
theorem FO {x1} (h : PA X es t) : PE X (.Tuple es x1 pos) (LC t) := by
  refine ⟨?_⟩
  intro pins s σ H Q I hq
  refine wpAny_Tuple_spliced (thn (h pos pins s σ H _ I hq) fun us s1 ⟨xs, H1, I1, r, z, q⟩ => ⟨by rw [← r.length]; exact z, ?_⟩)
  have hf : H1 s1.heap.objs.size = none := I1.hok.fresh (Nat.le_refl _)
  refine ⟨.ref s1.heap.objs.size, upd H1 s1.heap.objs.size (.tup xs), I1.laid (t' := s1.toks) (fun b u e => Heap.get?_push_of_some _ e) (Nat.le_refl _) ?_, rfl, q _ hf⟩
  exact ⟨z, us, r, ⟨_, Heap.get?_push_size _ rfl, rfl, _, rfl, rfl⟩⟩
theorem yl (h : PA X es t) : PE X (.List es pos) (LD t) := by
  refine ⟨?_⟩
  intro pins s σ H Q I hq
  refine wpAny_List_spliced (thn (h pos pins s σ H _ I hq) fun us s1 ⟨xs, H1, I1, r, z, q⟩ => ⟨by rw [← r.length]; exact z, ?_⟩)
  have hf : H1 s1.heap.objs.size = none := I1.hok.fresh (Nat.le_refl _)
  refine ⟨.ref s1.heap.objs.size, upd H1 s1.heap.objs.size (.lst xs), I1.laid (t' := s1.toks) (fun b u e => Heap.get?_push_of_some _ e) (Nat.le_refl _) ?_, rfl, q _ hf⟩
  exact ⟨z, us, 0, r, Heap.get?_push_size _ rfl⟩
end
noncomputable abbrev Sp := List V → Hp → VK → XK → Prop
noncomputable abbrev gd := List Env → Hp → Shared → XK → Value → Shared → Prop
structure pH (P : Program) (w : World) (K : PySem.W.Frag) (mg : Str → Option Value) (base : Heap) (A : Around) (outer : List Env) (s : Shared) (H : Hp) : Prop where
  frames : A.frames = some outer
  mod : Mod K mg base
  bs : ∀ b o, base.get? b = some o → s.heap.get? b = some o ∧ H b = none
  bsz : base.objs.size ≤ s.heap.objs.size
  funs : s.heap.FunFrames base outer
  frf : ∀ b ∈ dO outer, H b = none
  hok : cp P w H s.heap
  bare : AllBare s.gens
noncomputable def CE (outer : List Env) (P : Program) (w : World) (H : Hp) (s : Shared) (Q : VK) (u : Value) (s' : Shared) : Prop :=
  ∃ v H', s'.os = s.os ∧ Gn s.gens.size s'.gens ∧ Un (dO outer) [] H H' s.heap s'.heap ∧ cp P w H' s'.heap ∧ RelV v u ∧ Q v H'
noncomputable def CR (CX : gd) (outer : List Env) (P : Program) (w : World) (H : Hp) (s : Shared) (Q : VK) (E : XK) (r : Result) (s' : Shared) : Prop :=
  match r with
  | .ok (.ret u) => CE outer P w H s Q u s'
  | .ok _ => False
  | .error e => CX outer H s E e s'
structure FnOk (P : Program) (w : World) (K : PySem.W.Frag) (mg : Str → Option Value) (base : Heap) (CX : gd) (k : Nat) (f : Addr) (fd : FuncData) (ps : List Str) (sp : Sp) : Prop where
  len : ∀ vs H Q E, sp vs H Q E → vs.length = ps.length
  run : ∀ (A : Around) (outer : List Env) (s : Shared) (H : Hp) (args : Args) (us : List Value) (vs : List V) (Q : VK) (E : XK), bL k A → pH P w K mg base A outer s H → BindsTo s fd args (ps.zip us) → Vals vs us → sp vs H Q E →
    codeAny (model P w) A (.call (.ref f) args) (CR CX outer P w H s Q E) s
theorem FnOk.mono {P : Program} {w : World} {K : PySem.W.Frag} {mg : Str → Option Value} {base : Heap} {CX : gd} {j k : Nat} {f : Addr} {fd : FuncData} {ps : List Str} {sp : Sp} (F : FnOk P w K mg base CX j f fd ps sp) (h : j ≤ k) :
    FnOk P w K mg base CX k f fd ps sp := ⟨F.len, fun A outer s H args us vs Q E hr => F.run A outer s H args us vs Q E (hr.mono h)⟩
theorem FnOk.imp {P : Program} {w : World} {K : PySem.W.Frag} {mg : Str → Option Value} {base : Heap} {CX : gd} {k : Nat} {f : Addr} {fd : FuncData} {ps : List Str} {sp J8 : Sp} (F : FnOk P w K mg base CX k f fd ps sp)
    (h : ∀ vs H Q E, J8 vs H Q E → sp vs H Q E) : FnOk P w K mg base CX k f fd ps J8 :=
  ⟨fun vs H Q E q => F.len vs H Q E (h _ _ _ _ q), fun A outer s H args us vs Q E hr he hb hv hs => F.run A outer s H args us vs Q E hr he hb hv (h _ _ _ _ hs)⟩
section
variable {X : Cx} {pins : List (Addr × Obj)} {σ : St} {H : Hp} {s s' : Shared}
theorem Inv.LI (I : Inv X pins σ H s) : pH X.prog X.w X.K X.mg X.base X.A X.stack s H :=
  ⟨I.ok.frames, I.ok.mod, I.bs, Nat.le_trans I.ok.bsz I.sz, I.stack, I.jT, I.hok, I.bare.1⟩
theorem Inv.after {Q : VK} {u : Value} (I : Inv X pins σ H s) (h : CE X.stack X.prog X.w H s Q u s') : EP X pins σ Q u s' := by
  obtain ⟨v, H', os, bare, un, hok, r, q⟩ := h
  obtain ⟨hh, g, d, t, CA⟩ := s'
  obtain rfl : CA = s.os := os
  exact ⟨v, H', I.call (h' := hh) (g' := g) (d' := d) (t' := t) (ch := []) un hok bare (fun b z => absurd z (by simp)), r, q⟩
end
noncomputable def CB (sp : Sp) (fk : List V) (E : XK) (t : TA) : TE := fun σ H Q => t σ H fun vs H1 => sp (vs ++ fk) H1 Q E
noncomputable def Binds (K : PySem.W.Frag) (fd : FuncData) (ps : List Str) (ds : List Value) : Prop :=
  ∀ (s : Shared) (us : List Value), K.In s.heap → (us ++ ds).length = ps.length → BindsTo s fd ⟨us, []⟩ (ps.zip (us ++ ds))
theorem Binds.all {K : PySem.W.Frag} {fd : FuncData} {ps : List Str} (h : ∀ us : List Value, us.length = ps.length → bindArgs fd ⟨us, []⟩ = pure (ps.zip us)) : Binds K fd ps [] := fun s us _ hl => by
  rw [List.append_nil] at hl ⊢
  exact .of_eq (h us hl)
noncomputable def Passes (CX : gd) (X : Cx) (E : XK) : Prop := ∀ (pins : List (Addr × Obj)) (σ : St) (H : Hp) (s : Shared) (e : Value) (s' : Shared), Inv X pins σ H s → CX X.stack H s E e s' → X.xe e s'
section
variable {X : Cx} {CX : gd} {k : Nat} {f C : Addr} {fd : FuncData} {ps : List Str} {sp : Sp} {fk : List V} {ds : List Value} {E : XK} {x m : Str} {p pos apos : Pos} {e o : Expr} {es : List Expr} {ta : TE} {t : TA}
theorem ym {pins : List (Addr × Obj)} {σ : St} {H : Hp} {s : Shared} {Q : VK} {us : List Value} {vs : List V} (F : FnOk X.prog X.w X.K X.mg X.base CX k f fd ps sp) (hr : bL k X.A) (hb : Binds X.K fd ps ds) (hd : Vals fk ds) (hx : Passes CX X E)
    (I : Inv X pins σ H s) (r : Vals vs us) (h : sp (vs ++ fk) H Q E) : wpAny (model X.prog X.w) X.A (call (.ref f) us) (EP X pins σ Q) X.xe s := by
  have r2 : Vals (vs ++ fk) (us ++ ds) := r.append hd
  have hl : (us ++ ds).length = ps.length := by rw [← r2.length]; exact F.len _ _ _ _ h
  refine wpAny_call (codeAny_mono (F.run X.A X.stack s H ⟨us, []⟩ (us ++ ds) (vs ++ fk) Q E hr I.LI (hb s us I.fZ hl) r2 h) fun r s' hq => ?_)
  cases r with
  | error e => exact hx pins σ H s e s' I hq
  | ok fl =>
    cases fl with
    | ret u => exact I.after hq
    | next => exact False.elim hq
    | brk => exact False.elim hq
    | cont => exact False.elim hq
theorem DI (F : FnOk X.prog X.w X.K X.mg X.base CX k f fd ps sp) (hr : bL k X.A) (hg : Gl X x) (hm : X.mg x = some (.ref f)) (hk : PySem.W.keepIn X.K (.ref f) = true) (hb : Binds X.K fd ps ds) (hd : Vals fk ds) (hx : Passes CX X E)
    (ha : PA X (e :: es) t) (eE : (x == ("__debug__" : Str)) = false := by decide) (he : starEach (e :: es) X.env = (false, eval e X.env) :: starEach es X.env := by rfl) (bV : (backTo pos (starEach es X.env)).any (·.1) = false := by rfl) :
    PE X (.Call (.Name x p) (e :: es) [] pos) (CB sp fk E t) := by
  refine ⟨?_⟩
  intro pins s σ H Q I h
  refine wpAny_Call_Name_kw (my I hg hm ?_ eE)
  refine PySem.W.callWith_K (h₀ := X.base) I.ok.mod.kin hk (thn (ha pos pins s σ H _ I h) fun us s1 ⟨vs, H1, I1, r, q⟩ => ⟨I1.fZ, ?_⟩) he bV
  exact ym F hr hb hd hx I1 r q
end
structure aQ (N P : List Str) (sc : Scope) : Prop where
  kind : sc.kind = .function
  co : sc.isCoroutine = false
  gen : sc.isGenerator = false
  nd : N.Nodup
  pre : N.take P.length = P
  par : ∀ x ∈ P, sc.names.lookup x = some .local ∨ sc.names.lookup x = some .cell
  nofree : ∀ y ∈ sc.names, y.2 ≠ .free
theorem qw {kindOf : Str → Option NameKind} {x : Str} : ∀ {binds : List (Str × Value)} {m : Str → Option Value}, (∀ v, (x, v) ∉ binds) → bindL kindOf binds m x = m x
  | [], _, _ => rfl
  | (n, v) :: r, m, h => by
    unfold bindL
    rw [qw fun w hw => h w (List.mem_cons_of_mem _ hw)]
    split
    · have : x ≠ n := by rintro rfl; exact h v List.mem_cons_self
      simp [this]
    · rfl
theorem qy {kindOf : Str → Option NameKind} {x : Str} : ∀ {binds : List (Str × Value)} {m : Str → Option Value}, (∀ v, (x, v) ∉ binds) → bindC kindOf binds m x = m x
  | [], _, _ => rfl
  | (n, v) :: r, m, h => by
    unfold bindC
    rw [qy fun w hw => h w (List.mem_cons_of_mem _ hw)]
    split
    · rfl
    · have : x ≠ n := by rintro rfl; exact h v List.mem_cons_self
      simp [this]
theorem qz {kindOf : Str → Option NameKind} {x : Str} {v : Value} : ∀ {P : List Str} {vs : List Value} {i : Nat} {m : Str → Option Value}, P.Nodup → P[i]? = some x → vs[i]? = some v → kindOf x = some .local →
    bindL kindOf (P.zip vs) m x = some v
  | [], _, _, _, _, h, _, _ => by simp at h
  | _ :: _, [], _, _, _, _, h, _ => by simp at h
  | p :: P, w :: vs, 0, m, nd, h1, h2, hk => by
    simp at h1 h2; subst h1; subst h2
    show bindL kindOf ((p, w) :: P.zip vs) m p = _
    unfold bindL
    rw [qw fun v hv => (List.nodup_cons.mp nd).1 (List.of_mem_zip hv).1, if_pos hk]
    simp
  | p :: P, w :: vs, i + 1, m, nd, h1, h2, hk => by
    show bindL kindOf ((p, w) :: P.zip vs) m x = _
    unfold bindL
    exact qz (i := i) (List.nodup_cons.mp nd).2 (by simpa using h1) (by simpa using h2) hk
theorem qA {kindOf : Str → Option NameKind} {x : Str} {v : Value} : ∀ {P : List Str} {vs : List Value} {i : Nat} {m : Str → Option Value}, P.Nodup → P[i]? = some x → vs[i]? = some v → kindOf x ≠ some .local →
    bindC kindOf (P.zip vs) m x = some v
  | [], _, _, _, _, h, _, _ => by simp at h
  | _ :: _, [], _, _, _, _, h, _ => by simp at h
  | p :: P, w :: vs, 0, m, nd, h1, h2, hk => by
    simp at h1 h2; subst h1; subst h2
    show bindC kindOf ((p, w) :: P.zip vs) m p = _
    unfold bindC
    rw [qy fun v hv => (List.nodup_cons.mp nd).1 (List.of_mem_zip hv).1, if_neg hk]
    simp
  | p :: P, w :: vs, i + 1, m, nd, h1, h2, hk => by
    show bindC kindOf ((p, w) :: P.zip vs) m x = _
    unfold bindC
    exact qA (i := i) (List.nodup_cons.mp nd).2 (by simpa using h1) (by simpa using h2) hk
noncomputable def start (N : List Str) (vs : List V) : St := vs.map some ++ List.replicate (N.length - vs.length) none
noncomputable def fg (CX : gd) (P : Program) (w : World) (K : PySem.W.Frag) (mg : Str → Option Value) (base : Heap) (N : List Str) (qual : Str) (scope : Scope) (f : Addr) (cd : Value) (A : Around) (outer : List Env) (s : Shared) (H : Hp) (E : XK) : Cx where
  prog := P
  w := w
  K := K
  mg := mg
  base := base
  A := A.deeper (envOfC qual scope s.heap.objs.size f cd)
  N := N
  s₀ := s
  H₀ := H
  env := envOfC qual scope s.heap.objs.size f cd
  outer := outer
  stack := envOfC qual scope s.heap.objs.size f cd :: outer
  ex := []
  calm := true
  fn := fun _ => true
  pn := []
  xe := fun e s' => wpAny (model P w) (A.deeper (envOfC qual scope s.heap.objs.size f cd)) (leaving (envOfC qual scope s.heap.objs.size f cd) e) (fun _ cf => CX outer H s E e cf) (fun e' cf => CX outer H s E e' cf) s'
theorem sj {sc : Scope} {n : Nat} {x : Str} (h : sc.names.lookup x = some .cell) : ∃ c, (cellsFrom n sc.names []).lookup x = some c := by
  have q := PySem.W.cellsFrom_some sc.names n [] (.inl h)
  exact Option.isSome_iff_exists.mp q
theorem yn {CX : gd} {P : Program} {w : World} {K : PySem.W.Frag} {mg : Str → Option Value} {base : Heap} {N ps : List Str} {qual : Str} {scope : Scope} {f : Addr} {cd : Value} {A : Around} {outer : List Env} {s s1 : Shared} {H : Hp} {E : XK} {us : List Value} {vs : List V}
    (S : aQ N ps scope) (hd : A.handled = none) (e0 : pH P w K mg base A outer s H) (hl : vs.length = ps.length) (r : Vals vs us)
    (x : InCallC s s.heap.objs.size (bindL (envOfC qual scope s.heap.objs.size f cd).kindOf (ps.zip us) fun _ => none) (cellsFrom (s.heap.objs.size + 1) scope.names []) (bindC (envOfC qual scope s.heap.objs.size f cd).kindOf (ps.zip us) fun _ => none) s1) :
    Inv (fg CX P w K mg base N qual scope f cd A outer s H E) [] (start N vs) H s1 := by
  have bV : ps.length ≤ N.length := by have := congrArg List.length S.pre; rw [List.length_take] at this; omega
  obtain ⟨h1, tk, rfl, hk⟩ := x.done
  have FP : ∀ b : Addr, b ∉ (fg CX P w K mg base N qual scope f cd A outer s H E).ex := fun b z => absurd (show b ∈ ([] : List Addr) from z) (by simp)
  refine ⟨⟨e0.mod, S.kind, rfl, rfl, Nat.le_refl _, fun y z c h1 h2 => ?_, fun y hy => ?_, fun y c _ h => ?_, fun _ => hd, Around.frames_deeper e0.frames, .inr ⟨rfl, rfl⟩, fun b z => absurd z (FP b), e0.bs, e0.bsz, fun b _ _ => FP b, fun b z => absurd z (FP b), e0.funs, e0.frf⟩,
    rfl, ⟨e0.bare, Nat.le_refl _⟩, Un.kept hk, ⟨_, x.toInCall.ns, fun i y v h1 h2 h3 => ?_⟩, fun y c h => ⟨_, x.cell y c h⟩, e0.hok.fresh (Nat.le_refl _), fun y c h => ?_, fun p hp => absurd (show p ∈ ([] : List (Addr × Obj)) from hp) (by simp), e0.hok.kept hk, ?_⟩
  · exact name_of_addr x.apart (PySem.mem_of_lookup h1) (PySem.mem_of_lookup h2)
  · have hy : scope.names.lookup y = some .cell ∨ scope.names.lookup y = some .free := hy
    rcases hy with hy | hy
    · exact sj hy
    · exact absurd rfl (S.nofree _ (PySem.mem_of_lookup hy))
  · exact Nat.le_of_lt (x.above y c (PySem.mem_of_lookup h))
  · have hi : i < vs.length := by
      unfold start at h2
      by_cases hi : i < vs.length
      · exact hi
      · rw [List.getElem?_append_right (by simpa using hi)] at h2
        rw [List.getElem?_replicate] at h2
        split at h2 <;> cases h2
    have ha : vs[i]? = some v := by
      unfold start at h2
      rw [List.getElem?_append_left (by simpa using hi), List.getElem?_map] at h2
      cases e : vs[i]? with
      | none => rw [e] at h2; cases h2
      | some a => rw [e] at h2; cases h2; rfl
    obtain ⟨u, hu, rv⟩ := r.get ha
    have hp : ps[i]? = some y := by
      rw [← S.pre, List.getElem?_take_of_lt (by omega)]; exact h1
    have J9 : ps.Nodup := by rw [← S.pre]; exact S.nd.sublist (List.take_sublist _ _)
    refine ⟨u, rv, ?_⟩
    rcases S.par y (List.mem_of_getElem? hp) with k | k
    · exact .inl ⟨k, qz J9 hp hu k⟩
    · obtain ⟨c, e⟩ := sj (n := s.heap.objs.size + 1) k
      refine .inr ⟨.inl k, c, e, ?_⟩
      have q := x.cell y c e
      rw [qA J9 hp hu (by show scope.names.lookup y ≠ _; rw [k]; decide)] at q
      exact q
  · exact e0.hok.fresh (Nat.le_of_lt (x.above y c (PySem.mem_of_lookup h)))
  · unfold start
    show _ = N.length
    rw [List.length_append, List.length_map, List.length_replicate]
    omega
theorem wa {CX : gd} {P : Program} {w : World} {K : PySem.W.Frag} {mg : Str → Option Value} {base : Heap} {k : Nat} {f : Addr} {name qual : Str} {params : Arguments} {body : List Stmt} {scope : Scope} {dV kV doc pm cw ct oc : Value} {an od : Option Addr}
    {jw : Array (Option Value)} {N ps : List Str} {sp : Sp} (lk : K.lookup f = some ⟨oc, od, .func (PySem.W.fnOf name qual params body scope dV kV doc pm an cw ct), jw⟩) (dE : PySem.W.codeIn K cw qual = true) (S : aQ N ps scope)
    (len : ∀ vs H Q E, sp vs H Q E → vs.length = ps.length)
    (kb : ∀ (A : Around) (outer : List Env) (s : Shared) (H : Hp) (vs : List V) (Q : VK) (E : XK), bL k (A.deeper (envOfC qual scope s.heap.objs.size f cw)) → sp vs H Q E →
      ∃ t, fO (fg CX P w K mg base N qual scope f cw A outer s H E) body t ∧ t { nx := fun _ H' => Q .ao H', rt := Q } (start N vs) H) :
    FnOk P w K mg base CX (k + 1) f (PySem.W.fnOf name qual params body scope dV kV doc pm an cw ct) ps sp := by
  refine ⟨len, fun A outer s H args us vs Q E hr e0 hb r jx => ?_⟩
  have hl := len _ _ _ _ jx
  have KX : K.In s.heap := e0.mod.kin.keeps fun b o e => (e0.bs b o e).1
  have lim : s.heap.NoLimit := e0.mod.nolimit.keeps fun b o e => (e0.bs b o e).1
  have mC : ∀ y ∈ ps.zip us, scope.names.lookup y.1 = some .local ∨ (scope.names.lookup y.1 = some .cell ∧ ((cellsFrom (s.heap.objs.size + 1) scope.names []).lookup y.1).isSome = true) := fun ⟨n, v⟩ hy => by
    rcases S.par n (List.of_mem_zip hy).1 with q | q
    · exact .inl q
    · exact .inr ⟨q, PySem.W.cellsFrom_some _ _ _ (.inl q)⟩
  refine codeAny_call_function hr.depth (KX _ _ lk) rfl S.co S.gen rfl (PySem.W.codeRec_of KX dE) (hb _ _ _ _ ?_)
  refine wpAny_newFunctionEnv_cells S.kind mC fun env he s1 x => ?_
  subst he
  refine ⟨lim.keeps x.toInCall.keep, codeAny_func ?_⟩
  obtain ⟨t, ht, hq⟩ := kb A outer s H vs Q E (hr.deeper _) jx
  have I : Inv (fg CX P w K mg base N qual scope f cw A outer s H E) [] (start N vs) H s1 := yn S hr.hd e0 hl r x
  refine wpAny_mono (ht [] s1 (start N vs) H _ I hq) (fun fl s' hs => ?_) fun e s' hs => hs
  have fin : ∀ {aG : St} {H' : Hp} {v : V} {u : Value}, Inv (fg CX P w K mg base N qual scope f cw A outer s H E) [] aG H' s' → RelV v u → Q v H' → CE outer P w H s Q u s' :=
    fun {aG H' v u} J rv q => ⟨v, H', J.os, J.bare, J.base, J.hok, rv, q⟩
  cases fl with
  | ret u =>
    obtain ⟨v, aG, H', J, rv, q⟩ := hs
    exact fin J rv q
  | next =>
    obtain ⟨aG, H', J, q⟩ := hs
    exact fin (v := V.ao) (u := Value.none) J rfl q
  | brk =>
    obtain ⟨_, _, _, q⟩ := hs
    exact False.elim q
  | cont =>
    obtain ⟨_, _, _, q⟩ := hs
    exact False.elim q
section
variable {X : Cx} {x : Str} {p pos : Pos} {e : Expr} {es : List Expr} {t : TA} {id T : String} {r : List V → Hp → VK → Prop}
noncomputable def FQ (r : List V → Hp → VK → Prop) (t : TA) : TE := fun σ H Q => t σ H fun vs H1 => r vs H1 Q
theorem A0 (hc : de X (.builtin id) r) (hg : Gl X x) (hm : X.mg x = none) (hv : bootBuiltins x = some (.builtin id)) (ha : PA X (e :: es) t) (hn : x ≠ "__name__" := by decide) (eE : (x == ("__debug__" : Str)) = false := by decide)
    (he : starEach (e :: es) X.env = (false, eval e X.env) :: starEach es X.env := by rfl) (bV : (backTo pos (starEach es X.env)).any (·.1) = false := by rfl) : PE X (.Call (.Name x p) (e :: es) [] pos) (FQ r t) := by
  refine ⟨?_⟩
  intro pins s σ H Q I h
  refine wpAny_Call_Name_kw (f6 I hg hm hv ?_ hn eE)
  exact PyProof.Rows.callWith_builtin1 (thn (ha pos pins s σ H _ I h) fun us s1 ⟨vs, H1, I1, r1, q1⟩ => hc pins s1 σ H1 vs us Q I1 r1 q1) he bV
theorem yo (hc : de X (.type T) r) (hg : Gl X x) (hm : X.mg x = none) (hv : bootBuiltins x = some (.type T)) (ha : PA X (e :: es) t) (hn : x ≠ "__name__" := by decide) (eE : (x == ("__debug__" : Str)) = false := by decide)
    (he : starEach (e :: es) X.env = (false, eval e X.env) :: starEach es X.env := by rfl) (bV : (backTo pos (starEach es X.env)).any (·.1) = false := by rfl) : PE X (.Call (.Name x p) (e :: es) [] pos) (FQ r t) := by
  refine ⟨?_⟩
  intro pins s σ H Q I h
  refine wpAny_Call_Name_kw (f6 I hg hm hv ?_ hn eE)
  exact PyProof.Rows.callWith_type1 (thn (ha pos pins s σ H _ I h) fun us s1 ⟨vs, H1, I1, r1, q1⟩ => hc pins s1 σ H1 vs us Q I1 r1 q1) he bV
end
end L2
namespace HT
open PySem PyProof.Rows
section
variable {prog : Program} {w : World} {A : Around} {E : Value → Shared → Prop} {s : Shared}
noncomputable def iW (n d : Nat) : Option Int → Nat
  | none => d
  | some v => if v < 0 then (v + (n : Int)).toNat else min v.toNat n
end
end HT
namespace L2
open PySem PySem.Spec PyProof.Rows
noncomputable abbrev TO := St → Hp → (Option Int → Hp → Prop) → Prop
section
variable {X : Cx} {e : Expr} {te : TE} {lo hi : Option Expr} {tl th : TO} {pos p2 : Pos}
noncomputable def MS (X : Cx) (r : V → Option Int → Option Int → Hp → VK → Prop) : Prop :=
  ∀ (pins : List (Addr × Obj)) (s : Shared) (σ : St) (H : Hp) (x : V) (v vl vu : Value) (lo hi : Option Int) (sl : Addr) (Q : VK), Inv X pins σ H s → RelV x v → s.heap.IsSliceOf sl vl vu .none → IsPart vl lo → IsPart vu hi → r x lo hi H Q →
    ∃ T id, typeLookup (.type T) "__getitem__" = pure (some (.builtin id)) ∧ s.TypeIs v T ∧ wpAny (model X.prog X.w) X.A (getItem v (.ref sl)) (EP X pins σ Q) X.xe s
noncomputable def wc (xs : List V) (lo hi : Option Int) : List V := (xs.drop (HT.iW xs.length 0 lo)).take (HT.iW xs.length xs.length hi - HT.iW xs.length 0 lo)
theorem uF (xs : List V) (lo hi : Option Int) : (wc xs lo hi).length ≤ xs.length := by
  unfold wc
  rw [List.length_take, List.length_drop]
  omega
end
noncomputable def g7 (n : Nat) (i : Int) : Option Nat := if 0 ≤ i then (if i < n then some i.toNat else none) else if -(n : Int) ≤ i then some (i + n).toNat else none
noncomputable def cZ {α : Type} (xs : List α) (i : Int) : Option α := (g7 xs.length i).bind fun j => xs[j]?
theorem pI {n : Nat} {i : Int} {j : Nat} (h : g7 n i = some j) : seqIndex? i n = some j ∧ j < n ∧ -(n : Int) ≤ i ∧ i < n := by
  unfold g7 at h
  by_cases h0 : 0 ≤ i
  · rw [if_pos h0] at h
    by_cases h1 : i < n
    · rw [if_pos h1] at h
      have e : i.toNat = j := Option.some.inj h
      exact ⟨by rw [seqIndex_of h0 h1, e], by omega, by omega, h1⟩
    · rw [if_neg h1] at h; cases h
  · rw [if_neg h0] at h
    by_cases h1 : -(n : Int) ≤ i
    · rw [if_pos h1] at h
      have e : (i + n).toNat = j := Option.some.inj h
      exact ⟨by rw [seqIndex_neg (by omega) h1, e], by omega, h1, by omega⟩
    · rw [if_neg h1] at h; cases h
theorem pJ {α : Type} {xs : List α} {i : Int} {v : α} (h : cZ xs i = some v) : ∃ j, seqIndex? i xs.length = some j ∧ xs[j]? = some v ∧ j < xs.length ∧ -(xs.length : Int) ≤ i ∧ i < xs.length := by
  unfold cZ at h
  cases e : g7 xs.length i with
  | none => rw [e] at h; cases h
  | some j =>
    rw [e] at h
    obtain ⟨h1, h2, h3, h4⟩ := pI e
    exact ⟨j, h1, h, h2, h3, h4⟩
theorem dF {α : Type} {xs : List α} {j : Nat} {v : α} (h : xs[j]? = some v) : cZ xs (j : Int) = some v := by
  have hj : j < xs.length := (List.getElem?_eq_some_iff.mp h).1
  have e : g7 xs.length (j : Int) = some j := by
    unfold g7
    rw [if_pos (by omega), if_pos (by omega)]; simp
  unfold cZ; rw [e]; exact h
noncomputable def vc (b : Expr) : Prop := ∀ o i, subscripted b false o i = operate [o, i] (getItem o i)
noncomputable def kX (X : Cx) (r : R2) : Prop :=
  ∀ (value slice : Expr) (pins : List (Addr × Obj)) (s : Shared) (σ : St) (H : Hp) (x y : V) (v u : Value) (Q : VK), Inv X pins σ H s → RelV x v → RelV y u → r x y H Q →
    subscripted slice false v u = operate [v, u] (getItem v u) → wpAny (model X.prog X.w) X.A (subscriptTail value slice v u) (EP X pins σ Q) X.xe s
noncomputable def FR (X : Cx) (id : String) (r : V → List V → Hp → VK → Prop) : Prop :=
  ∀ (pins : List (Addr × Obj)) (s : Shared) (σ : St) (H : Hp) (x : V) (xs : List V) (v : Value) (us : List Value) (Q : VK), Inv X pins σ H s → RelV x v → Vals xs us → r x xs H Q →
    wpAny (model X.prog X.w) X.A (call (.builtin id) (v :: us)) (EP X pins σ Q) X.xe s
section
variable {X : Cx} {a b : Expr} {ta tb : TE} {pos : Pos}
theorem kX.or {r r' : R2} (h : kX X r) (h' : kX X r') : kX X (fun x y H Q => r x y H Q ∨ r' x y H Q) := by
  intro value slice pins s σ H x y v u Q I rx ry q hs
  rcases q with q | q
  · exact h value slice pins s σ H x y v u Q I rx ry q hs
  · exact h' value slice pins s σ H x y v u Q I rx ry q hs
theorem Jf {r : R2} (hr : kX X r) (ha : PE X a ta) (hb : PE X b tb) (hs : vc b) : PE X (.Subscript a b pos) (yf r ta tb) := by
  refine ⟨?_⟩
  intro pins s σ H Q I h
  exact Subscript_ (AK ha hb I h fun v u s2 x y H2 I2 rx ry q => hr a b pins s2 σ H2 x y v u Q I2 rx ry q (hs _ _))
noncomputable def FT (K : PySem.W.Frag) : R2 := fun x y H Q => ∃ p xs i v, x = .ref p ∧ y = .int i ∧ bH K H p xs ∧ cZ xs i = some v ∧ Q v H
noncomputable def FU (K : PySem.W.Frag) : R2 := fun x y H Q => ∃ p xs i v, x = .ref p ∧ y = .int i ∧ cu K H p xs ∧ cZ xs i = some v ∧ Q v H
noncomputable def FV : R2 := fun x y H Q => ∃ z i c, x = .str z ∧ y = .int i ∧ z.length ≤ sizeLine ∧ cZ z.cps.toList i = some c ∧ Q (.str ⟨#[c]⟩) H
theorem DJ : kX X (FT X.K) := by
  intro value slice pins s σ H x y v u Q I rx ry h hs
  obtain ⟨p, xs, i, z, rfl, rfl, hq, he, q⟩ := h
  cases rx
  obtain ⟨t, rfl⟩ := ry
  obtain ⟨its, r, pl, hz⟩ := I.list hq
  obtain ⟨j, h1, h2, h3, h4, h5⟩ := pJ he
  obtain ⟨w, ew, jV⟩ := r.get h2
  have hl := r.length
  have hn := jU
  have fin : EP X pins σ Q w s := ⟨z, H, I, jV, q⟩
  by_cases h0 : 0 ≤ i
  · have hj : i.toNat = j := by
      rw [seqIndex_of h0 h5] at h1
      exact Option.some.inj h1
    exact item_listR pl.isList h0 (by omega) (by rw [hj]; simpa using ew) fin hs
  · have hj : (i + (its.toArray.size : Int)).toNat = j := by
      rw [seqIndex_neg (by omega) h4] at h1
      rw [List.size_toArray, ← hl]
      exact Option.some.inj h1
    exact subscriptTail_builtinR (x := w) pl.isList.typeIs slot_list_getitem.lookup
      (wpAny_getItem_list_neg (Q := fun r s' => r = w ∧ EP X pins σ Q r s') pl.isList (by omega) (by rw [List.size_toArray] <;> omega) (by omega) (by rw [hj]; simpa using ew) ⟨rfl, fin⟩) hs
theorem FW : kX X (FU X.K) := by
  intro value slice pins s σ H x y v u Q I rx ry h hs
  obtain ⟨p, xs, i, z, rfl, rfl, hq, he, q⟩ := h
  cases rx
  obtain ⟨t, rfl⟩ := ry
  obtain ⟨its, r, pl, hz⟩ := I.tuple hq
  obtain ⟨j, h1, h2, h3, h4, h5⟩ := pJ he
  obtain ⟨w, ew, jV⟩ := r.get h2
  have hl := r.length
  have hn := jU
  have fin : EP X pins σ Q w s := ⟨z, H, I, jV, q⟩
  exact subscriptTail_builtinR (x := w) pl.typeIs slot_tuple_getitem.lookup
    (getItem_tuple (j := j) (Q := fun r s' => r = w ∧ EP X pins σ Q r s') pl (by omega) (by omega) (by rw [List.size_toArray, ← hl]; exact h1) (by simpa using ew) ⟨rfl, fin⟩) hs
theorem FX : kX X FV := by
  intro value slice pins s σ H x y v u Q I rx ry h hs
  obtain ⟨z, i, c, rfl, rfl, hz, he, q⟩ := h
  obtain ⟨t, rfl⟩ := rx
  obtain ⟨t', rfl⟩ := ry
  obtain ⟨j, h1, h2, h3, h4, h5⟩ := pJ he
  have hl : z.cps.toList.length = z.length := by simp [Str.length]
  rw [hl] at h1 h4 h5
  have hn := jU
  exact tail_any (typeIs_str s z t) slot_str_getitem.lookup (getItem_str (c := c) (by
    have e1 : decide (i < -(2 ^ 63 : Int)) = false := decide_eq_false (by omega)
    have e2 : decide (i ≥ 2 ^ 63) = false := decide_eq_false (by omega)
    rw [e1, e2, Bool.or_false]) (by rw [h1]; simpa using h2) ⟨.str ⟨#[c]⟩, H, I.tok _, ⟨_, rfl⟩, q⟩) hs
noncomputable def Ka (K : PySem.W.Frag) : R2 := fun x y H Q => FT K x y H Q ∨ FU K x y H Q ∨ FV x y H Q
theorem FY : kX X (Ka X.K) := DJ.or (FW.or FX)
theorem we (its : List Value) (n j : Nat) (u : Value) : Obj.mapSeq (·.setIfInBounds j u) { cls := .type "list", data := .seq its.toArray n } = { cls := .type "list", data := .seq (its.set j u).toArray n } := by
  simp [Obj.mapSeq]
theorem Inv.lst {pins : List (Addr × Obj)} {σ : St} {H : Hp} {s : Shared} {p : Addr} {xs : List V} (I : Inv X pins σ H s) (h : H p = some (.lst xs)) :
    ∃ (its : List Value) (n : Nat), Vals xs its ∧ s.heap.get? p = some { cls := .type "list", data := .seq its.toArray n } ∧ xs.length ≤ sizeLine := by
  obtain ⟨z, its, n, r, e⟩ := I.hok p _ h
  exact ⟨its, n, r, e, z⟩
theorem Inv.FZ {pins : List (Addr × Obj)} {σ : St} {H : Hp} {s : Shared} {p : Addr} {xs ys : List V} {its its' : List Value} {n n' : Nat} {f : Obj → Obj} (I : Inv X pins σ H s) (h : H p = some (.lst xs))
    (ho : s.heap.get? p = some { cls := .type "list", data := .seq its.toArray n }) (hf : f { cls := .type "list", data := .seq its.toArray n } = { cls := .type "list", data := .seq its'.toArray n' }) (r : Vals ys its') (hz : ys.length ≤ sizeLine) (t : Nat) :
    Inv X pins σ (upd H p (.lst ys)) { s with heap := s.heap.update p f, toks := t } := by
  have e : (s.heap.update p f).get? p = some { cls := .type "list", data := .seq its'.toArray n' } := by
    rw [Heap.get?_update_self f ho (by rw [hf] <;> rfl), hf]
  refine I.write (x := p) (e := p) (by rw [h]; trivial) (.inl rfl) (fun b u hb q => (Heap.get?_update_other _ _ (Ne.symm hb)).trans q) ⟨_, e⟩ ?_
  exact ⟨hz, its', n', r, e⟩
noncomputable def Jg : V → V → V → Hp → (Hp → Prop) → Prop := fun o i v H Q => ∃ p xs k j, o = .ref p ∧ i = .int k ∧ H p = some (.lst xs) ∧ g7 xs.length k = some j ∧ Q (upd H p (.lst (xs.set j v)))
theorem set_list : Fl X Jg := by
  intro pins s σ H o i v ov iv u Q I ro ri rv h
  obtain ⟨p, xs, k, j, rfl, rfl, hp, hj, q⟩ := h
  cases ro
  obtain ⟨t, rfl⟩ := ri
  obtain ⟨its, n, r, ho, hz⟩ := I.lst hp
  obtain ⟨h1, h2, h3, h4⟩ := pI hj
  have hl := r.length
  have hn := jU
  have I' : Inv X pins σ (upd H p (.lst (xs.set j v))) { s with heap := s.heap.update p (Obj.mapSeq (·.setIfInBounds j u)) } :=
    I.FZ hp ho (we its n j u) (r.set rv j) (by rw [List.length_set]; exact hz) s.toks
  by_cases h0 : 0 ≤ k
  · have hk : k.toNat = j := by
      rw [seqIndex_of h0 h4] at h1
      exact Option.some.inj h1
    exact PySem.W.ki_setAt ho h0 (by omega) (by rw [List.size_toArray, ← hl]; exact h4) (by rw [hk]; exact ⟨_, I', q⟩)
  · have hk : (k + (its.toArray.size : Int)).toNat = j := by
      rw [seqIndex_neg (by omega) h3] at h1
      rw [List.size_toArray, ← hl]
      exact Option.some.inj h1
    exact PySem.W.ki_setBack ho (by omega) (by rw [List.size_toArray, ← hl]; exact h3) (by omega) (by rw [hk]; exact ⟨_, I', q⟩)
theorem sk (lo hi : Option Int) (n : Nat) : (sliceBounds lo hi none n).1 = ((HT.iW n 0 lo : Nat) : Int) ∧ (sliceBounds lo hi none n).2.1 = ((HT.iW n n hi : Nat) : Int) ∧ (sliceBounds lo hi none n).2.2 = 1 := by
  refine ⟨?_, ?_, rfl⟩
  · cases lo with
    | none => simp [sliceBounds, HT.iW]
    | some i =>
      simp only [sliceBounds, HT.iW, Option.getD_none, show (1 : Int) > 0 by decide, if_true]
      by_cases h : i < 0
      · simp only [h, if_true] <;> omega
      · simp only [h, if_false] <;> omega
  · cases hi with
    | none => simp [sliceBounds, HT.iW]
    | some i =>
      simp only [sliceBounds, HT.iW, Option.getD_none, show (1 : Int) > 0 by decide, if_true]
      by_cases h : i < 0
      · simp only [h, if_true] <;> omega
      · simp only [h, if_false] <;> omega
theorem rG (its : List Value) (lo hi : Option Int) : slicePick its.toArray lo hi none = ((its.drop (HT.iW its.length 0 lo)).take (HT.iW its.length its.length hi - HT.iW its.length 0 lo)).toArray := by
  obtain ⟨h1, h2, h3⟩ := sk lo hi its.toArray.size
  unfold slicePick
  rw [h1, h2, h3]
  simp only [sliceRange_one, pick_run, List.size_toArray] <;> rfl
noncomputable def LJ (K : PySem.W.Frag) : V → Option Int → Option Int → Hp → VK → Prop := fun x lo hi H Q => ∃ a xs, x = .ref a ∧ bH K H a xs ∧ ∀ p, H p = none → Q (.ref p) (upd H p (.lst (wc xs lo hi)))
theorem ML : MS X (LJ X.K) := by
  intro pins s σ H x v vl vu lo hi sl Q I rx hs pl pu h
  obtain ⟨a, xs, rfl, hx, q⟩ := h
  cases rx
  obtain ⟨its, r, ht, hz⟩ := I.list hx
  have hlen := r.length
  refine ⟨"list", _, slot_list_getitem.lookup, ht.isList.typeIs, ?_⟩
  refine wpAny_getItem_list_slice ht.isList hs pl pu .none (by simp) ?_ (by rw [List.size_toArray] <;> omega)
  rw [rG, ← hlen]
  refine ⟨.ref s.heap.objs.size, _, I.laid (t' := s.toks) (o := .lst (wc xs lo hi)) (fun b ob q => Heap.get?_push_of_some _ q) (Nat.le_refl _) ?_, rfl, q _ (I.hok.fresh (Nat.le_refl _))⟩
  exact ⟨Nat.le_trans (uF xs lo hi) hz, _, 0, (r.drop (HT.iW xs.length 0 lo)).take (HT.iW xs.length xs.length hi - HT.iW xs.length 0 lo), Heap.get?_push_size _ rfl⟩
theorem sm : de X (.type "list") (fun xs H Q => ∃ p ys, xs = [.ref p] ∧ (bH X.K H p ys ∨ cu X.K H p ys) ∧ ∀ l, H l = none → Q (.ref l) (upd H l (.lst ys))) := by
  intro pins s σ H xs us Q I r h
  obtain ⟨p, ys, rfl, hq, q⟩ := h
  obtain ⟨u, rfl, rx⟩ := vals1 r
  cases rx
  have fin : ∀ (its : List Value), Vals ys its → ys.length ≤ sizeLine → ∀ (h' : Heap) (c' : Nat), (∀ b o', s.heap.get? b = some o' → h'.get? b = some o') →
      h'.get? s.heap.objs.size = some { cls := .type "list", dict := none, data := .seq its.toArray c', slots := #[] } → EP X pins σ Q (.ref s.heap.objs.size) { s with heap := h' } := fun its r' hz h' c' kp e =>
    ⟨.ref s.heap.objs.size, _, I.laid (t' := s.toks) kp (Nat.le_refl _) (show ObjOk X.prog X.w _ h' _ (.lst ys) from ⟨hz, its, c', r', e⟩), rfl, q _ (I.hok.fresh (Nat.le_refl _))⟩
  rcases hq with hq | hq
  · obtain ⟨its, r', pl, hz⟩ := I.list hq
    have hlen := r'.length
    obtain ⟨o, ho, hc, n, hd⟩ := pl.isList
    exact call_list_seq p (.inl rfl) ho hc hd (fun h' c' kp e => fin its r' hz h' c' kp e) (by simp only [List.size_toArray] <;> omega)
  · obtain ⟨its, r', pl, hz⟩ := I.tuple hq
    have hlen := r'.length
    obtain ⟨o, ho, hc, n, hd⟩ := pl
    exact call_list_seq p (.inr rfl) ho hc hd (fun h' c' kp e => fin its r' hz h' c' kp e) (by simp only [List.size_toArray] <;> omega)
theorem rH : de X (.type "tuple") (fun xs H Q => ∃ p ys, xs = [.ref p] ∧ ((bH X.K H p ys ∧ ∀ l, H l = none → Q (.ref l) (upd H l (.tup ys))) ∨ (cu X.K H p ys ∧ Q (.ref p) H))) := by
  intro pins s σ H xs us Q I r h
  obtain ⟨p, ys, rfl, h⟩ := h
  obtain ⟨u, rfl, rx⟩ := vals1 r
  cases rx
  rcases h with ⟨hq, q⟩ | ⟨hq, q⟩
  · obtain ⟨its, r', pl, hz⟩ := I.list hq
    have hlen := r'.length
    refine call_tuple_list pl.isList (fun h' kp => ?_) (by simp only [List.size_toArray] <;> omega)
    have I1 : Inv X pins σ H { s with heap := h' } := I.kept (t' := s.toks) kp
    have I2 : Inv X pins σ (upd H h'.objs.size (.tup ys)) { s with heap := h'.push { cls := .type "tuple", data := .seq its.toArray } } :=
      I1.laid (t' := s.toks) (fun b o e => Heap.get?_push_of_some _ e) (Nat.le_refl _) (show ObjOk X.prog X.w _ _ _ (.tup ys) from ⟨hz, its, r', ka.new _ _⟩)
    exact ⟨.ref h'.objs.size, _, I2, rfl, q _ (I1.hok.fresh (Nat.le_refl _))⟩
  · obtain ⟨its, r', pl, hz⟩ := I.tuple hq
    exact call_tuple_same pl ⟨.ref p, H, I, rfl, q⟩
noncomputable def F0 (K : PySem.W.Frag) (T : String) (x : V) (H : Hp) : Prop := match x with
  | .str _ => T = "str"
  | .int _ => T = "int"
  | .ref p => (T = "list" ∧ ∃ xs, bH K H p xs) ∨ (T = "tuple" ∧ ((∃ o, K.lookup p = some o ∧ o.cls = .type "tuple" ∧ o.dict = none) ∨ ∃ xs, H p = some (.tup xs))) ∨
      (T = "dict" ∧ ((∃ aq, H p = some (.dK aq)) ∨ ∃ aq, H p = some (.dT aq))) ∨ (T = "set" ∧ ∃ S n, H p = some (.set S n))
  | _ => False
theorem F1 {pins : List (Addr × Obj)} {σ : St} {H : Hp} {s : Shared} {T : String} {x : V} {v : Value} (I : Inv X pins σ H s) (r : RelV x v) (ty : F0 X.K T x H) :
    s.TypeIs v T ∧ ∀ a, v = .ref a → ∃ ob, s.heap.get? a = some ob ∧ ob.dict = none := by
  cases x with
  | str z =>
    obtain ⟨t, rfl⟩ := r
    cases (show T = "str" from ty)
    exact ⟨typeIs_str s z t, fun _ e => nomatch e⟩
  | int i =>
    obtain ⟨t, rfl⟩ := r
    cases (show T = "int" from ty)
    exact ⟨typeIs_int s i t, fun _ e => nomatch e⟩
  | ref p =>
    cases r
    rcases ty with ⟨rfl, xs, hq⟩ | ⟨rfl, ⟨o, hk, hc, hd⟩ | ⟨xs, hk⟩⟩ | ⟨rfl, hk⟩ | ⟨rfl, S, n, hk⟩
    · obtain ⟨its, _, pl, _⟩ := I.list hq
      refine ⟨pl.isList.typeIs, fun a e => ?_⟩
      cases e
      obtain ⟨o, n, e, c, hd, _⟩ := pl
      exact ⟨o, e, hd⟩
    · refine ⟨⟨o, I.fZ p o hk, hc⟩, fun a e => ?_⟩
      cases e
      exact ⟨o, I.fZ _ o hk, hd⟩
    · obtain ⟨_, its, _, o, e, c, n, d, hd⟩ := I.hok p _ hk
      refine ⟨⟨o, e, c⟩, fun a e2 => ?_⟩
      cases e2
      exact ⟨o, e, hd⟩
    · have z : ∃ o, s.heap.get? p = some o ∧ o.ExactDict := by
        rcases hk with ⟨aq, hk⟩ | ⟨aq, hk⟩
        · obtain ⟨_, _, _, _, o, _, _, e, ex, _⟩ := I.hok p _ hk
          exact ⟨o, e, ex⟩
        · obtain ⟨_, _, _, _, o, _, _, e, ex, _⟩ := I.hok p _ hk
          exact ⟨o, e, ex⟩
      obtain ⟨o, e, ex⟩ := z
      refine ⟨⟨o, e, ex.1⟩, fun a e2 => ?_⟩
      cases e2
      exact ⟨o, e, ex.2.1⟩
    · obtain ⟨o, _, _, _, e, ex, _⟩ := I.hok p _ hk
      refine ⟨⟨o, e, ex.1⟩, fun a e2 => ?_⟩
      cases e2
      exact ⟨o, e, ex.2.1⟩
  | _ => exact False.elim ty
noncomputable def Kb (K : PySem.W.Frag) (T : String) (r : V → List V → Hp → VK → Prop) (to : TE) (t : TA) : TE := fun σ H Q => to σ H fun x H1 => F0 K T x H1 ∧ t σ H1 fun xs H2 => r x xs H2 Q
variable {o e : Expr} {es : List Expr} {to : TE} {t : TA} {name : Str} {apos aW : Pos} {T id : String} {r : V → List V → Hp → VK → Prop}
theorem Jh (pa : PlainAttrs T) (slot : Slot T name id) (yp : typeOf (.builtin id) = pure (.type "method_descriptor")) (hm : FR X id r) (ho : PE X o to) (ha : PA X (e :: es) t)
    (ow : attributeBase o name X.env (eval o X.env) = eval o X.env := by rfl)
    (so : ((backTo aW (starEach (e :: es) X.env)).all (fun x => !x.1) && (backToKw aW (keywordEach [] X.env)).all (fun x => x.1.isSome)
      && decide ((e :: es).length + ([] : List Keyword).length + (if ([] : List Keyword).isEmpty then 0 else 1) < 30)) = true := by rfl)
    (hline : (apos.endLine == aW.line) = true := by rfl) (hs : starEach (e :: es) X.env = (false, eval e X.env) :: starEach es X.env := by rfl) (kY : (backTo aW (starEach es X.env)).any (·.1) = false := by rfl) :
    PE X (.Call (.Attribute o name apos) (e :: es) [] aW) (Kb X.K T r to t) := by
  refine ⟨?_⟩
  intro pins s σ H Q I h
  refine wpAny_Call_method_late ow so hline rfl (thn (ho pins s σ H _ I h) fun v s1 ⟨x, H1, I1, r1, ty, q1⟩ => ?_)
  obtain ⟨h1, h2⟩ := F1 I1 r1 ty
  refine ⟨T, id, pa, slot, yp, h1, h2, ?_⟩
  have hA := ha aW pins s1 σ H1 _ I1 q1
  rw [hs] at hA ⊢
  refine Calls.callWith_builtin (by show (false || (backTo aW (starEach es X.env)).any (·.1)) = false; rw [kY] <;> rfl) (Calls.evalArgs_plain ?_)
  exact thn hA fun us s2 ⟨vs, H2, I2, r2, q2⟩ => hm pins s2 σ H2 x vs v us Q I2 r1 r2 q2
end
noncomputable def F2 (X : Cx) (id : String) (r : V → List V → Hp → VK → Prop) : Prop :=
  ∀ (pins : List (Addr × Obj)) (s : Shared) (σ : St) (H : Hp) (x : V) (xs : List V) (v : Value) (us : List Value) (Q : VK), Inv X pins σ H s → RelV x v → Vals xs us → r x xs H Q →
    wpAny (model X.prog X.w) X.A (call (.builtin id) (v :: us)) (EP X pins σ Q) X.xe s
theorem Vals.one : ∀ {x : V} {us : List Value}, Vals [x] us → ∃ u, us = [u] ∧ RelV x u
  | _, _, .cons r .nil => ⟨_, rfl, r⟩
theorem Vals.eraseIdx : ∀ {xs : List V} {us : List Value} (i : Nat), Vals xs us → Vals (xs.eraseIdx i) (us.eraseIdx i)
  | _, _, _, .nil => .nil
  | _, _, 0, .cons _ t => t
  | _, _, i + 1, .cons r t => .cons r (Vals.eraseIdx i t)
theorem qB {α : Type} : ∀ (l : List α) (i : Nat), (l.eraseIdx i).length ≤ l.length
  | [], _ => Nat.le_refl _
  | _ :: _, 0 => Nat.le_succ _
  | _ :: r, i + 1 => Nat.succ_le_succ (qB r i)
section
variable {X : Cx} {pins : List (Addr × Obj)} {σ : St} {H : Hp} {s : Shared} {l b : Addr} {xs ys zs : List V}
theorem Inv.A1 {its its' : List Value} {n : Nat} {f : Array Value → Array Value} {t' : Nat} (I : Inv X pins σ H s) (hH : H l = some (.lst xs))
    (e : s.heap.get? l = some { cls := .type "list", data := .seq its.toArray n }) (hf : f its.toArray = its'.toArray) (hv : Vals ys its') (hz : ys.length ≤ sizeLine) :
    Inv X pins σ (upd H l (.lst ys)) { s with heap := s.heap.update l (Obj.mapSeq f), toks := t' } := by
  have q := PySem.IsL.update e f
  rw [hf] at q
  refine I.write (x := l) (e := l) (by rw [hH]; exact trivial) (.inl rfl) (fun b' u hb hu => (Heap.get?_update_other s.heap (Obj.mapSeq f) (Ne.symm hb)).trans hu) ⟨_, q⟩ ?_
  exact ⟨hz, its', _, hv, q⟩
theorem Inv.LK {its : List Value} {t' : Nat} (I : Inv X pins σ H s) (hv : Vals ys its) (hz : ys.length ≤ sizeLine) :
    Inv X pins σ (upd H s.heap.objs.size (.lst ys)) { s with heap := s.heap.push { cls := .type "list", data := .seq its.toArray }, toks := t' } :=
  I.laid (fun _ _ q => Heap.get?_push_of_some _ q) (Nat.le_refl _) ⟨hz, its, 0, hv, Heap.get?_push_size _ rfl⟩
theorem Inv.fresh (I : Inv X pins σ H s) : H s.heap.objs.size = none := I.hok.fresh (Nat.le_refl _)
theorem Inv.pK (I : Inv X pins σ H s) (hH : H l = some (.lst xs)) : xs.length ≤ sizeLine ∧ ∃ (its : List Value) (n : Nat), Vals xs its ∧ xs.length = its.length ∧ s.heap.get? l = some { cls := .type "list", data := .seq its.toArray n } := by
  obtain ⟨z, its, n, r, e⟩ := I.hok l _ hH
  exact ⟨z, its, n, r, r.length, e⟩
theorem A6 {n : Nat} (h : n ≤ sizeLine) : Builtin.List.listTooLong n = false := by
  unfold Builtin.List.listTooLong
  exact decide_eq_false (by omega)
end
section
variable {X : Cx}
noncomputable def DK : V → List V → Hp → VK → Prop := fun x vs H Q => ∃ l xs y, x = .ref l ∧ vs = [y] ∧ H l = some (.lst xs) ∧ xs.length < sizeLine ∧ Q .ao (upd H l (.lst (xs ++ [y])))
theorem kZ : F2 X "list.append" DK := by
  intro pins s σ H x vs v us Q I rx rv h
  obtain ⟨l, xs, y, rfl, rfl, hH, hz, q⟩ := h
  cases rx
  obtain ⟨u, rfl, ru⟩ := rv.one
  obtain ⟨z, its, n, r, hl, e⟩ := I.pK hH
  refine call_meets F.slot_list_append ⟨_, e, rfl⟩ F.entry_list_append (F.args_list_append_2 _ _) (PySem.list_append l its.toArray n u (by rw [List.size_toArray]; omega)) ⟨e, ?_⟩
  refine ⟨.ao, _, I.A1 (its' := its ++ [u]) hH e (by simp) (r.append (.cons ru .nil)) ?_, rfl, q⟩
  rw [List.length_append, List.length_singleton]
  omega
noncomputable def DL : V → List V → Hp → VK → Prop := fun x vs H Q => ∃ l b xs zs, x = .ref l ∧ vs = [.ref b] ∧ H l = some (.lst xs) ∧ H b = some (.lst zs) ∧ xs.length + zs.length ≤ sizeLine ∧ Q .ao (upd H l (.lst (xs ++ zs)))
theorem Kc : F2 X "list.extend" DL := by
  intro pins s σ H x vs v us Q I rx rv h
  obtain ⟨l, b, xs, zs, rfl, rfl, hH, hB, hz, q⟩ := h
  cases rx
  obtain ⟨u, rfl, ru⟩ := rv.one
  cases ru
  obtain ⟨z, its, n, r, hl, e⟩ := I.pK hH
  obtain ⟨z2, ck, n2, r2, gC, e2⟩ := I.pK hB
  have hsz : its.toArray.size + ck.toArray.size ≤ sizeLine := by rw [List.size_toArray, List.size_toArray]; omega
  have Ji : ¬ (!its.toArray.isEmpty && Builtin.List.listTooLong (its.toArray.size + ck.toArray.size)) = true := by
    rw [A6 hsz, Bool.and_false]
    exact Bool.false_ne_true
  refine call_meets F.slot_list_extend ⟨_, e, rfl⟩ F.entry_list_extend (F.args_list_extend_2 _ _)
    (AutoSeq1.list_extend_list_list_0 l its.toArray n b ck.toArray n2 Ji (by rw [List.size_toArray]; omega) (by omega)) ⟨e, e2, ?_⟩
  refine ⟨.ao, _, I.A1 (its' := its ++ ck) hH e (by simp) (r.append r2) ?_, rfl, q⟩
  rw [List.length_append]
  omega
noncomputable def F3 : V → List V → Hp → VK → Prop := fun x vs H Q => ∃ l xs i k y, x = .ref l ∧ vs = [.int i] ∧ H l = some (.lst xs) ∧ -(2 ^ 63) ≤ i ∧ i < 2 ^ 63 ∧ seqIndex? i xs.length = some k ∧ xs[k]? = some y ∧ Q y (upd H l (.lst (xs.eraseIdx k)))
theorem A7 : F2 X "list.pop" F3 := by
  intro pins s σ H x vs v us Q I rx rv h
  obtain ⟨l, xs, i, k, y, rfl, rfl, hH, h1, h2, hk, hy, q⟩ := h
  cases rx
  obtain ⟨u, rfl, ru⟩ := rv.one
  obtain ⟨t, rfl⟩ := ru
  obtain ⟨z, its, n, r, hl, e⟩ := I.pK hH
  obtain ⟨w, hw, jV⟩ := r.get hy
  refine call_meets F.slot_list_pop ⟨_, e, rfl⟩ F.entry_list_pop (F.args_list_pop_2 _ _)
    (MeetsSeq.list_pop_at l its.toArray n i t k w (fitsIndex_both h1 h2) (by rw [List.size_toArray, ← hl]; exact hk) (by rw [← Array.getElem?_toList]; exact hw) (by rw [List.size_toArray]; omega)) ⟨e, ?_⟩
  refine ⟨y, _, I.A1 (its' := its.eraseIdx k) hH e ?_ (r.eraseIdx k) ?_, jV, q⟩
  · show its.toArray.eraseIdxIfInBounds k = (its.eraseIdx k).toArray
    rw [List.eraseIdxIfInBounds_toArray]
  · have := qB xs k
    omega
noncomputable def LL : R2 := fun x y H Q => ∃ l b xs zs, x = .ref l ∧ y = .ref b ∧ H l = some (.lst xs) ∧ H b = some (.lst zs) ∧ xs.length + zs.length ≤ sizeLine ∧ ∀ p, H p = none → Q (.ref p) (upd H p (.lst (xs ++ zs)))
theorem F4 : OpR X (binaryOp .Add) LL := by
  intro pins s σ H x y v u Q I rx ry h
  obtain ⟨l, b, xs, zs, rfl, rfl, hH, hB, hz, q⟩ := h
  cases rx
  cases ry
  obtain ⟨z, its, n, r, hl, e⟩ := I.pK hH
  obtain ⟨z2, ck, n2, r2, gC, e2⟩ := I.pK hB
  refine PySem.P.add_list e e2 ?_ (by rw [List.size_toArray, List.size_toArray]; omega)
  have ea : its.toArray ++ ck.toArray = (its ++ ck).toArray := by simp
  rw [ea]
  exact ⟨.ref _, _, I.LK (t' := s.toks) (r.append r2) (by rw [List.length_append]; omega), rfl, q _ I.fresh⟩
end
end L2
namespace Kd
open PySem PySem.W PySem.Calls PyProof.Rows
theorem ox {P : Params} {h : Heap} : ∀ (ns : List Int) (vs : List Value), WellAll P h vs (ns.map WData.int) → IntsAre vs ns := by
  intro ns
  induction ns with
  | nil =>
    intro vs w
    rw [List.map_nil] at w
    cases w
    exact .nil
  | cons n ns ih =>
    intro vs w
    rw [List.map_cons] at w
    cases w with
    | cons a b =>
      cases a
      exact .cons _ _ (ih _ b)
theorem yq {l : OpenLaw} {n : Nat} (hn : l.most = some n) {P : Params} {h : Heap} {args : List WData} {vals : List Value}
    (wg : l.row.toRowW.claim.pre args = true) (yr : WellAll P h vals args) :
    ∃ a vs ns, vals = [Value.ref a] ∧ args = [WData.list (ns.map WData.int)] ∧ h.get? a = some { cls := .type "list", data := .seq vs.toArray } ∧ IntsAre vs ns ∧ ns.length ≤ n := by
  have MT : WShape.hasAll [] args [.list .int] = true := (pre_splitW wg).1
  have hc : l.pre.holds [] { args := args } = true := (pre_splitW wg).2
  obtain ⟨d, r, rfl, h1, h2⟩ := hasAllW_cons MT
  obtain rfl := hasAllW_nil h2
  obtain ⟨xs, rfl, h3⟩ := hasW_list h1
  obtain ⟨ns, rfl⟩ := items_int h3
  have hlen : ns.length ≤ n := by
    unfold OpenLaw.pre at hc
    have h4 : (WTm.not (.lt (.lit (.int (n : Int))) (.len (.arg 0)))).holds [] { args := [.list (ns.map .int)] } = true := by
      have h4 := (holds_andW hc).1
      rw [hn] at h4
      exact h4
    have h5 := condW_of h4 (w_not (w_lt w_lit (w_len_list (w_arg rfl))))
    rw [List.length_map] at h5
    refine Nat.le_of_not_lt fun q => ?_
    have q' : (n : Int) < ((ns.length : Nat) : Int) := by omega
    first
      | (rw [decide_eq_true q'] at h5; exact absurd h5 (by decide))
      | (simp at h5; omega)
  cases yr with
  | cons w1 w2 =>
    cases w2
    cases w1 with
    | list ho LN => exact ⟨_, _, ns, rfl, rfl, ho, ox ns _ LN, hlen⟩
theorem yt (l : OpenLaw) (args : List WData) : l.row.toRowW.claim.post args (.bool true) args = true :=
  postW_of (r := l.row.toRowW) (X := (true == true))
    (show WShape.has [] (.bool true) .bool = true by first | rfl | decide | simp [WShape.has, WShape.arms, WShape.armsAll])
    (show (WTm.eq .res (.lit (.bool true))).value [] { args := args, res := some (.bool true), after := args } = some (.bool (true == true)) from w_eq_bool (w_res rfl) w_lit) rfl
theorem uG {l : OpenLaw} {n : Nat} {q : Program} {loose : List Str} {XP : (Str → Option Value) → Heap → Prop} {YP : World → Heap → Prop} {d : DefRec}
    (hn : l.most = some n) (yu : d.params.defaults = [])
    (call : ∀ (w : World) (s₀ az : Shared) (mg mb : Str → Option Value) (fa : Addr) (o : Obj) (pm cd doc : Value) (a : Addr) (vs : List Value) (ns : List Int),
      Ground q loose [] XP w s₀ mg mb az.heap → YP w az.heap →
      az.heap.get? fa = some o → o.data = .func (docDef d.name d.params d.body d.scope pm cd doc) → az.heap.CodeRec cd d.name → mg d.name = some (.ref fa) →
      az.heap.get? a = some { cls := .type "list", data := .seq vs.toArray } → IntsAre vs ns → ns.length ≤ n → az.gens = #[] →
      codeAny (model l.prog w) callerA (.call (.ref fa) ⟨[.ref a], []⟩) (fun r s' => r = .ok (.ret (.bool true)) ∧ OldK az.heap s'.heap ∧ s'.os = az.os ∧ AllBare s'.gens) az) :
    WalkO q loose XP YP l.row.toRowW d [] (fun f vs => PySem.call f vs) := by
  intro w s₀ az mg mb G Y fa o pm cd doc dV kV ho hd dE hD yw hg args vals as wg O9 Pm yr Pn
  obtain rfl : dV = .none := Dflts.none hD yu
  obtain rfl : kV = .none := Dflts.noKw hD
  obtain ⟨a, vs, ns, rfl, rfl, A8, hints, hlen⟩ := yq hn wg yr
  refine enter_call (codeAny_mono (call w s₀ az mg mb fa o pm cd doc a vs ns G Y ho (fd_plain hd) dE yw A8 hints hlen hg) fun r s' hq => ?_)
  obtain ⟨rfl, h2, h3, h4⟩ := hq
  exact ⟨.inl ⟨.bool true, .bool true, [], rfl, fun _ => rfl, .bool true, yt l _, fun _ => ⟨List.Pairwise.nil, fun _ hm => (nomatch hm)⟩⟩, h2, h3, h4⟩
end Kd
namespace L2
open PySem PySem.Spec PyProof.Rows
theorem qC : ∀ {vs : List Value} {ns : List Int}, IntsAre vs ns → Vals (ns.map V.int) vs
  | _, _, .nil => .nil
  | _, _, .cons n t h => .cons ⟨t, rfl⟩ (qC h)
noncomputable def cK (s : Stmt) : Arguments := match s with
  | .FunctionDef _ a _ _ _ _ _ _ _ _ => a
  | _ => { posonlyargs := [], args := [], vararg := none, kwonlyargs := [], kw_defaults := [], kwarg := none, defaults := [] }
noncomputable def bB (s : Stmt) : List Stmt := match s with
  | .FunctionDef _ _ b _ _ _ _ _ _ _ => b
  | _ => []
noncomputable def ai (s : Stmt) : Scope := match s with
  | .FunctionDef _ _ _ _ _ _ sc _ _ _ => sc
  | _ => { kind := .function, names := [], isGenerator := false, isCoroutine := false }
noncomputable abbrev bt : gd := fun _ _ _ _ _ _ => False
noncomputable abbrev E0 : XK := fun _ _ _ => False
theorem bu {X : Cx} : Passes bt X E0 := fun _ _ _ _ _ _ _ h => h.elim
structure qD (K : PySem.W.Frag) (x qual : Str) (st : Stmt) (f : Addr) (fd : FuncData) : Prop where
  ex : ∃ (oc : Value) (od : Option Addr) (kV doc pm : Value) (an : Option Addr) (cw ct : Value) (jw : Array (Option Value)),
    fd = PySem.W.fnOf x qual (cK st) (bB st) (ai st) .none kV doc pm an cw ct ∧ K.lookup f = some ⟨oc, od, .func fd, jw⟩ ∧ PySem.W.codeIn K cw qual = true
  kp : PySem.W.keepIn K (.ref f) = true
section
variable {P : Program} {w : World} {K : PySem.W.Frag} {mg : Str → Option Value} {base : Heap}
theorem qD.binds {x qual : Str} {st : Stmt} {f : Addr} {fd : FuncData} {ps : List Str} (F : qD K x qual st f fd)
    (h : ∀ (kV doc pm : Value) (an : Option Addr) (cw ct : Value) (us : List Value), us.length = ps.length → bindArgs (PySem.W.fnOf x qual (cK st) (bB st) (ai st) .none kV doc pm an cw ct) ⟨us, []⟩ = pure (ps.zip us)) : Binds K fd ps [] := by
  obtain ⟨oc, od, kV, doc, pm, an, cw, ct, jw, rfl, lk, dE⟩ := F.ex
  exact .all (h kV doc pm an cw ct)
theorem F5 {x qual : Str} {st : Stmt} {f : Addr} {oc : Value} {od an : Option Addr} {jw : Array (Option Value)} {kV doc pm cw ct : Value} (l : K.lookup f = some ⟨oc, od, .func (PySem.W.fnOf x qual (cK st) (bB st) (ai st) .none kV doc pm an cw ct), jw⟩)
    (c : PySem.W.codeIn K cw qual = true) (k : PySem.W.keepIn K (.ref f) = true) : qD K x qual st f (PySem.W.fnOf x qual (cK st) (bB st) (ai st) .none kV doc pm an cw ct) := ⟨⟨oc, od, kV, doc, pm, an, cw, ct, jw, rfl, l, c⟩, k⟩
end
section
variable {X : Cx}
theorem pv (i : Nat) {x : Str} {pos : Pos} (hN : X.N[i]? = some x := by rfl) (hv : mU X.env.scope x := by first | exact Or.inl rfl | exact Or.inr (Or.inl rfl) | exact Or.inr (Or.inr rfl)) (hd : (x == ("__debug__" : Str)) = false := by decide)
    (dE : (x == ("__classdict__" : Str)) = false := by decide) : PE X (.Name x pos) (E7 i) := se hN hv hd dE
end
end L2
set_option maxHeartbeats 4000000
namespace L2
open PySem PySem.Spec PyProof.Rows
theorem ke {env : Env} : ∀ (names : List (Str × NameKind)) (acc : List (Str × Addr)), (∀ n, (n, NameKind.free) ∈ names → ∃ c, env.cells.lookup n = some c) →
    (∀ n c, acc.lookup n = some c → env.cells.lookup n = some c) →
    ∃ cl, (forIn names acc fun x r => if (x.2 == NameKind.free) = true then (do let a ← cellOf env x.1; pure (ForInStep.yield ((x.1, a) :: r))) else pure (ForInStep.yield r) : Sem (List (Str × Addr))) = pure cl ∧
      (∀ n c, cl.lookup n = some c → env.cells.lookup n = some c) ∧ (∀ n, (n, NameKind.free) ∈ names → ∃ c, cl.lookup n = some c) ∧ (∀ n c, acc.lookup n = some c → ∃ c', cl.lookup n = some c')
  | [], acc, _, h2 => ⟨acc, rfl, h2, fun n h => by simp at h, fun n c h => ⟨c, h⟩⟩
  | (n, k) :: r, acc, h1, h2 => by
    rw [List.forIn_cons]
    cases hk : (k == NameKind.free) with
    | true =>
      have ek : k = NameKind.free := by simpa using hk
      subst ek
      obtain ⟨c, hc⟩ := h1 n List.mem_cons_self
      have e1 : cellOf env n = pure c := by unfold cellOf; rw [hc]
      obtain ⟨cl, e, a1, a2, a3⟩ := ke r ((n, c) :: acc) (fun m hm => h1 m (List.mem_cons_of_mem _ hm)) (fun m c' hm => by
        rw [List.lookup_cons] at hm
        cases hb : m == n with
        | true =>
          rw [hb] at hm
          have e2 : m = n := by simpa using hb
          rw [e2, hc]; exact hm
        | false => rw [hb] at hm; exact h2 m c' hm)
      refine ⟨cl, ?_, a1, fun m hm => ?_, fun m c' hm => ?_⟩
      · simp only [if_true, e1]
        exact e
      · rcases List.mem_cons.mp hm with z | z
        · cases z
          exact a3 n c (by rw [List.lookup_cons]; simp)
        · exact a2 m z
      · by_cases hb : m = n
        · subst hb
          exact a3 m c (by rw [List.lookup_cons]; simp)
        · exact a3 m c' (by
            rw [List.lookup_cons]
            have : (m == n) = false := by simpa using hb
            rw [this]; exact hm)
    | false =>
      obtain ⟨cl, e, a1, a2, a3⟩ := ke r acc (fun m hm => h1 m (List.mem_cons_of_mem _ hm)) h2
      refine ⟨cl, ?_, a1, fun m hm => ?_, a3⟩
      · simp only [Bool.false_eq_true, if_false]
        exact e
      · rcases List.mem_cons.mp hm with z | z
        · cases z; simp at hk
        · exact a2 m z
theorem eT {scope : Scope} {env : Env} (h : ∀ n, (n, NameKind.free) ∈ scope.names → ∃ c, env.cells.lookup n = some c) :
    ∃ cl, closureFor scope env = pure cl ∧ (∀ n c, cl.lookup n = some c → env.cells.lookup n = some c) ∧ (∀ n, (n, NameKind.free) ∈ scope.names → ∃ c, cl.lookup n = some c) := by
  obtain ⟨cl, e, a1, a2, _⟩ := ke (env := env) scope.names [] h (fun n c hn => by simp at hn)
  refine ⟨cl, ?_, a1, a2⟩
  simp only [closureFor]
  rw [e]
  rfl
noncomputable def cxBlock (X : Cx) (N' : List Str) (env' : Env) (A' : Around) (stack' : List Env) (s : Shared) (H : Hp) (ex : List Addr) : Cx :=
  { X with N := N', s₀ := s, H₀ := H, env := env', A := A', outer := X.stack, stack := stack', ex := ex, fn := fun _ => false, pn := [], xe := fun _ _ => False }
theorem k4 {X : Cx} {pins : List (Addr × Obj)} {σ aG : St} {H H' : Hp} {s : Shared} {N' : List Str} {env' : Env} {A' : Around} {stack' : List Env} {ex : List Addr} {h1 : Heap} {m0 : Str → Option Value} {g' : Array GenState} {tk : Nat}
    (I : Inv X pins σ H s) (mC : env'.scope.kind = .function) (Jj : env'.globals = X.env.globals) (LO : env'.builtins = X.env.builtins)
    (cT : ∀ n c, env'.cells.lookup n = some c → X.env.cells.lookup n = some c)
    (nB : ∀ x, (env'.kindOf x = some .cell ∨ env'.kindOf x = some .free) → ∃ c, env'.cells.lookup x = some c)
    (hh : X.calm = true → A'.handled = none) (yx : A'.frames = some stack') (LQ : stack' = X.stack ∨ (stack' = env' :: X.stack ∧ env'.frame = some env'.locals))
    (hC : s.heap.objs.size ≤ env'.locals) (hf : ∀ b ∈ ex, cY X pins H b) (wj : ∀ b ∈ ex, b < s.heap.objs.size)
    (yy : Un (dO X.stack) ex H H' s.heap h1) (hok : cp X.prog X.w H' h1) (oy : H' env'.locals = none) (oz : ∀ b o, s.heap.get? b = some o → h1.get? b = some o) (fP : h1.Ns env'.locals m0)
    (sr : ∀ (i : Nat) (x : Str) (v : V), N'[i]? = some x → aG[i]? = some (some v) → mU env'.scope x → (env'.kindOf x = some .cell ∨ env'.kindOf x = some .free) ∧ mU X.env.scope x ∧ (X.env.kindOf x = some .cell ∨ X.env.kindOf x = some .free) ∧ ∃ j : Nat, X.N[j]? = some x ∧ σ[j]? = some (some v))
    (hlen : aG.length = N'.length) (hg : Gn s.gens.size g') : Inv (cxBlock X N' env' A' stack' s H ex) [] aG H' { s with heap := h1, gens := g', toks := tk } := by
  have yz : ∀ b ∈ ex, ∀ x c, X.env.cells.lookup x = some c → c ≠ b := fun b hb => (hf b hb).2.2.2.2.1
  refine ⟨⟨I.ok.mod, mC, Jj.trans I.ok.glob, LO.trans I.ok.blt, hC, fun x y c a b => I.ok.inj x y c (cT x c a) (cT y c b), nB, fun _ _ z => (nomatch z), hh, yx, LQ, fun b hb => ⟨Nat.ne_of_lt (Nat.lt_of_lt_of_le (wj b hb) hC), fun x c e => yz b hb x c (cT x c e)⟩,
      I.bs, Nat.le_trans I.ok.bsz I.sz, fun b o e hb => ?_, fun b hb z => ?_, I.stack, I.jT⟩, rfl, hg, yy, ⟨m0, fP, fun i x v e1 e2 e3 => ?_⟩, fun x c e => ?_, oy, fun x c e => ?_, fun p hp => absurd (show p ∈ ([] : List (Addr × Obj)) from hp) (by simp), hok, hlen⟩
  · rcases (hf b hb).2.2.2.1 with z | z
    · exact I.ok.noex b o e z
    · exact absurd (Nat.lt_of_lt_of_le (Heap.lt_size e) (Nat.le_trans I.ok.bsz z)) (Nat.lt_irrefl _)
  · rcases List.mem_cons.mp (I.eC b z) with q | q
    · exact (hf b hb).2.1 q
    · exact (hf b hb).2.2.1 q
  · obtain ⟨k1, vx, k2, j, n1, n2⟩ := sr i x v e1 e2 e3
    obtain ⟨m, hn, hl⟩ := I.loc
    obtain ⟨u, r, l⟩ := hl j x v n1 n2 vx
    refine ⟨u, r, .inr ⟨k1, ?_⟩⟩
    obtain ⟨c', yA⟩ := nB x k1
    rcases l with ⟨kl, _⟩ | ⟨_, c, ec, z⟩
    · rcases k2 with q | q <;> (rw [kl] at q; cases q)
    · have : c' = c := Option.some.inj ((cT x c' yA).symm.trans ec)
      subst this
      exact ⟨c', yA, z.keeps oz⟩
  · obtain ⟨v, z⟩ := I.cell x c (cT x c e)
    exact ⟨v, z.keeps oz⟩
  · obtain ⟨v, o, ho, hd⟩ := I.cell x c (cT x c e)
    exact yy.free c o ho (I.freeC x c (cT x c e)) fun z => yz c z x c (cT x c e) rfl
theorem lookup_map2 {c : Str → NameKind → NameKind} : ∀ {names : List (Str × NameKind)} {x : Str}, (names.map fun (p : Str × NameKind) => (p.1, c p.1 p.2)).lookup x = (names.lookup x).map (c x)
  | [], x => rfl
  | (n, k') :: r, x => by
    have ih := @lookup_map2 c r x
    rw [List.map_cons, List.lookup_cons, List.lookup_cons]
    cases hx : x == n with
    | true =>
      have e : x = n := by simpa using hx
      subst e
      rfl
    | false => exact ih
theorem c0 {scope : Scope} {env : Env} (x : Str) : (relabel scope env).names.lookup x = (scope.names.lookup x).map fun k => if (k == .free && env.scope.kind == .function && env.kindOf x == some .cell) = true then .cell else k := by
  have e : (relabel scope env).names = scope.names.map fun p => (p.1, (fun n k => if (k == NameKind.free && env.scope.kind == .function && env.kindOf n == some .cell) = true then NameKind.cell else k) p.1 p.2) := by
    unfold relabel
    dsimp only
    congr 1
    funext p
    obtain ⟨n, k⟩ := p
    dsimp only
    split <;> rfl
  rw [e]
  exact lookup_map2 (c := fun n k => if (k == NameKind.free && env.scope.kind == .function && env.kindOf n == some .cell) = true then NameKind.cell else k)
noncomputable def aF (N : List Str) (sc scope : Scope) (N' : List Str) (tn : Nat) (idx : List Nat) : Prop :=
  scope.kind = .function ∧ (∀ y ∈ scope.names, y.2 ≠ .cell ∧ (y.2 = .local → scope.names.lookup y.1 = some .local) ∧ (y.2 = .free → sc.names.lookup y.1 = some .cell ∨ sc.names.lookup y.1 = some .free)) ∧
    N'.length = tn + idx.length ∧ ∀ p ∈ idx.zip (N'.drop tn), N[p.1]? = some p.2 ∧ scope.names.lookup p.2 = some .free
instance (N : List Str) (sc scope : Scope) (N' : List Str) (tn : Nat) (idx : List Nat) : Decidable (aF N sc scope N' tn idx) := by unfold aF; infer_instance
noncomputable def bh (tn : Nat) (idx : List Nat) (σ : St) : St := List.replicate tn none ++ idx.map fun i => (σ[i]?).join
theorem aF.at {N : List Str} {sc scope : Scope} {N' : List Str} {tn : Nat} {idx : List Nat} (B : aF N sc scope N' tn idx) {σ : St} {i : Nat} {x : Str} {v : V} (h1 : N'[i]? = some x) (h2 : (bh tn idx σ)[i]? = some (some v)) :
    scope.names.lookup x = some .free ∧ ∃ j : Nat, N[j]? = some x ∧ σ[j]? = some (some v) := by
  obtain ⟨_, _, b3, b4⟩ := B
  unfold bh at h2
  by_cases hi : i < tn
  · rw [List.getElem?_append_left (by simpa using hi), List.getElem?_replicate, if_pos hi] at h2
    cases h2
  · rw [List.getElem?_append_right (by simpa using hi), List.length_replicate, List.getElem?_map] at h2
    cases e : idx[i - tn]? with
    | none => rw [e] at h2; cases h2
    | some k =>
      rw [e] at h2
      have h3 : (σ[k]?).join = some v := Option.some.inj h2
      have e2 : (N'.drop tn)[i - tn]? = some x := by
        rw [List.getElem?_drop]
        have : tn + (i - tn) = i := by omega
        rw [this]; exact h1
      have m : (k, x) ∈ idx.zip (N'.drop tn) := by
        refine List.mem_of_getElem? (i := i - tn) ?_
        rw [List.getElem?_zip_eq_some]
        exact ⟨e, e2⟩
      obtain ⟨a, b⟩ := b4 _ m
      refine ⟨b, k, a, ?_⟩
      cases q : σ[k]? with
      | none => rw [q] at h3; cases h3
      | some w => rw [q] at h3; exact congrArg some h3
theorem aF.len {N : List Str} {sc scope : Scope} {N' : List Str} {tn : Nat} {idx : List Nat} (B : aF N sc scope N' tn idx) (σ : St) : (bh tn idx σ).length = N'.length := by
  rw [B.2.2.1]
  unfold bh
  simp
section
variable {X : Cx}
noncomputable def iX (X : Cx) (ifs : List Expr) (tt : TT) : Prop :=
  ∀ (pins : List (Addr × Obj)) (s : Shared) (σ : St) (H : Hp) (Q : Bool → Hp → Prop), Inv X pins σ H s → tt σ H Q →
    wpAny (model X.prog X.w) X.A (forIn ifs true fun c r => if r = true then do let ok ← isTrue c X.env (eval c X.env); pure (ForInStep.yield ok) else pure (ForInStep.yield r)) (TP X pins σ Q) X.xe s
noncomputable def Jk : TT := fun _ H Q => Q true H
theorem DM : iX X [] Jk := fun _ _ _ H _ I h => wpAny_tests_nil ⟨H, I, h⟩
theorem DN {c : Expr} {tc : TT} (h : PT X c tc) : iX X [c] tc := fun pins s σ H Q I q => wpAny_tests_one (h pins s σ H Q I q)
noncomputable abbrev gD (X : Cx) (N' : List Str) (scope : Scope) (cl : List (Str × Addr)) (C : Addr) (s : Shared) (H : Hp) (fp : List Addr) : Cx := cxBlock X N' (compEnvC scope cl C X.env) X.A X.stack s H fp
noncomputable abbrev Blk (X : Cx) (N' : List Str) (scope : Scope) (P : Cx → Prop) : Prop := ∀ (cl : List (Str × Addr)) (C : Addr) (s : Shared) (H : Hp) (fp : List Addr), P (gD X N' scope cl C s H fp)
noncomputable def wk (J : It) (g : TG) (tt : TT) (te : TE) (D : Addr) (Q : VK) (W : Nat → Nat → St → Hp → Prop) : Prop := ∀ i m τ H, W i m τ H →
  (J.stop i H ∧ Q (.ref D) H) ∨ (J.go i H ∧ ∀ x H', J.yld i H x H' → g x τ H' fun aC H2 => tt aC H2 fun b H3 => if b = true then te aC H3 fun y H4 => ∃ ys m', H4 D = some (.lst ys) ∧ ys.length < sizeLine ∧ m' < m ∧ W (i + 1) m' aC (upd H4 D (.lst (ys ++ [y]))) else ∃ m', m' < m ∧ W (i + 1) m' aC H3)
noncomputable def oA (tn : Nat) (idx : List Nat) (wi : TI) (g : TG) (tt : TT) (te : TE) : TE := fun σ H Q => wi σ H fun J H1 => ∀ D, H1 D = none → ∃ W : Nat → Nat → St → Hp → Prop, (∃ m, W 0 m (bh tn idx σ) (upd H1 D (.lst []))) ∧ wk J g tt te D Q W
theorem qE {pins : List (Addr × Obj)} {σ : St} {H2 : Hp} {s2 : Shared} {tg elt iter : Expr} {ifs : List Expr} {scope : Scope} {pos : Pos} {N' : List Str} {tn : Nat} {idx : List Nat} {g : TG} {tt : TT} {te : TE} {it : Addr} {fp : List Addr} {cD : Nat → Heap → Prop} {J : It}
    {cl : List (Str × Addr)} {E : Value → Shared → Prop} {RR : Value → Addr → Result → Shared → Prop} {Q : VK}
    (hc : X.calm = true) (B : aF X.N X.env.scope scope N' tn idx)
    (hg : Blk X N' scope fun Y => PG Y tg g) (ht : Blk X N' scope fun Y => iX Y ifs tt) (he : Blk X N' scope fun Y => PE Y elt te)
    (I : Inv X pins σ H2 s2) (T : Turn X.prog X.w X.K tg J fp it cD) (st : cD 0 s2.heap) (f2 : ∀ b ∈ fp, cY X pins H2 b)
    (cO : ∀ n c, cl.lookup n = some c → X.env.cells.lookup n = some c) (ez : ∀ n, (n, NameKind.free) ∈ scope.names → ∃ c, cl.lookup n = some c)
    (hq : ∀ D, H2 D = none → ∃ W : Nat → Nat → St → Hp → Prop, (∃ m, W 0 m (bh tn idx σ) (upd H2 D (.lst []))) ∧ wk J g tt te D Q W)
    (yB : ∀ D C m s' H', Inv X pins σ H' s' → cY X pins H' C → s'.heap.Ns C m → Q (.ref D) H' → RR (.ref D) C (.ok .next) s') :
    wpAny (model X.prog X.w) X.A (newList []) (fun acc dG => wpAny (model X.prog X.w) X.A (newFunctionEnv scope X.env.globals cl [] X.env.qual none .none (some X.env)) (fun k6 su =>
      codeAny (model X.prog X.w) X.A (.compStart (.ListComp elt [⟨tg, iter, ifs, 0⟩] scope pos) 0 (.ref it) acc { k6 with scope := relabel scope X.env }) (RR acc k6.locals) su) E dG) E s2 := by
  obtain ⟨b1, b2, b3, b4⟩ := id B
  refine wpAny_newObj_type (wpAny_newFunctionEnv (fun y hy => (b2 y hy).1) (by intro y hy; simp at hy) (fun di gf gh => ?_) b1)
  dsimp only at gf gh ⊢
  generalize hG : s2.heap.push { cls := .type "list", dict := none, data := .seq ([] : List Value).toArray } = G at gf gh ⊢
  have hC : G.objs.size = s2.heap.objs.size + 1 := by rw [← hG, Heap.size_push]
  have sv : s2.heap.objs.size ≠ G.objs.size := by rw [hC]; exact Nat.ne_of_lt (Nat.lt_succ_self _)
  have gJ : s2.heap.objs.size ≤ G.objs.size := by rw [hC]; exact Nat.le_succ _
  have below : ∀ b, b < s2.heap.objs.size → b ≠ G.objs.size := fun b hb => by rw [hC]; exact Nat.ne_of_lt (Nat.lt_succ_of_lt hb)
  have old : ∀ b o, s2.heap.get? b = some o → di.get? b = some o := fun b o e => gh.extBut b o (below b (Heap.lt_size e)) (Heap.get?_push_of_some _ (hG ▸ Heap.get?_push_of_some _ e))
  have yC : di.get? s2.heap.objs.size = some { cls := .type "list", data := .seq ([] : List Value).toArray } := gh.extBut _ _ sv (Heap.get?_push_of_some _ (hG ▸ Heap.get?_push_size _ rfl))
  have qF : H2 s2.heap.objs.size = none := I.hok.fresh (Nat.le_refl _)
  have oy : upd H2 s2.heap.objs.size (.lst []) G.objs.size = none := by rw [ae (Ne.symm sv)]; exact I.hok.fresh gJ
  have sx : cp X.prog X.w (upd H2 s2.heap.objs.size (.lst [])) di := I.hok.laid old (Nat.le_refl _) ⟨Nat.zero_le _, [], 0, .nil, yC⟩
  have ix : ∀ b ∈ fp, b < s2.heap.objs.size := fun b hb => let ⟨o, e, _⟩ := T.obj _ _ st b hb; Heap.lt_size e
  obtain ⟨W, ⟨m0, w0⟩, turn⟩ := hq s2.heap.objs.size qF
  have I1 : Inv (gD X N' scope cl G.objs.size s2 H2 fp) [] (bh tn idx σ) (upd H2 s2.heap.objs.size (.lst [])) { s2 with heap := di, toks := s2.toks + ([] : List (Str × Value)).length } := by
    refine k4 (g' := s2.gens) (m0 := fun x => ([] : List (Str × Value)).reverse.lookup x) I b1 rfl rfl cO (fun x hx => ?_) (fun z => I.ok.hd z) I.ok.frames (.inl rfl) gJ f2 ix (Un.laid old (Nat.le_refl _) qF) sx oy old gf (fun i x v e1 e2 e3 => ?_) (B.len σ) I.bare.self
    · have gE : (relabel scope X.env).names.lookup x = some .cell ∨ (relabel scope X.env).names.lookup x = some .free := hx
      rw [c0] at gE
      cases q : scope.names.lookup x with
      | none => rw [q] at gE; rcases gE with z | z <;> cases z
      | some k0 =>
        have hm := PySem.mem_of_lookup q
        rw [q] at gE
        by_cases hk : k0 = .free
        · subst hk; exact ez x hm
        · have nk : (k0 == NameKind.free) = false := by simpa using hk
          have nc := (b2 _ hm).1
          simp only [Option.map_some, nk, Bool.false_and, Bool.false_eq_true, if_false] at gE
          rcases gE with z | z
          · exact absurd (Option.some.inj z) nc
          · exact absurd (Option.some.inj z) hk
    · obtain ⟨fr, j, e4, e5⟩ := B.at e1 e2
      have kx := (b2 _ (PySem.mem_of_lookup fr)).2.2 rfl
      refine ⟨?_, .inr kx, kx, j, e4, e5⟩
      show (relabel scope X.env).names.lookup x = some .cell ∨ (relabel scope X.env).names.lookup x = some .free
      rw [c0, fr]
      simp only [Option.map_some]
      split
      · exact .inl rfl
      · exact .inr rfl
  have stat : ∀ {H' : Hp}, (∀ b ∈ fp, H' b = none) → ∀ b ∈ fp, cY (gD X N' scope cl G.objs.size s2 H2 fp) [] H' b := fun hn b hb => by
    refine ⟨hn b hb, below b (ix b hb), fun z => ?_, .inl hb, fun x c e => (f2 b hb).2.2.2.2.1 x c (cO x c e), fun p hp => absurd (show p ∈ ([] : List (Addr × Obj)) from hp) (by simp)⟩
    rcases List.mem_cons.mp (I.eC b z) with q | q
    · exact (f2 b hb).2.1 q
    · exact (f2 b hb).2.2.1 q
  have loop : ∀ dG : Shared, dG = { s2 with heap := di, toks := s2.toks + ([] : List (Str × Value)).length } →
      codeAny (model X.prog X.w) X.A (.compLoop (.ListComp elt [⟨tg, iter, ifs, 0⟩] scope pos) 0 (.ref it) (.ref s2.heap.objs.size) (compEnvC scope cl G.objs.size X.env))
        (RR (.ref s2.heap.objs.size) G.objs.size) dG := by
    rintro dG rfl
    refine codeAny_loop rfl (fun n s' => ∃ i τ H', Inv (gD X N' scope cl G.objs.size s2 H2 fp) [] τ H' s' ∧ cD i s'.heap ∧ (∀ b ∈ fp, H' b = none) ∧ W i n τ H') (fun n s hI => ?_) m0
      ⟨0, _, _, I1, T.keep _ _ _ st fun b _ o e => old b o e, fun b hb => by rw [ae (Nat.ne_of_lt (ix b hb))]; exact (f2 b hb).1, w0⟩
    show wpAny _ X.A ((compTurn (.ListComp elt [⟨tg, iter, ifs, 0⟩] scope pos) 0 (.ref it) (.ref s2.heap.objs.size) (compEnvC scope cl G.objs.size X.env)).onRaise (fun x => do noteFrame x (compEnvC scope cl G.objs.size X.env); theTreesLotGoes x)) _ _ s
    refine wpAny_noted ?_
    rw [compTurn_list]
    obtain ⟨i, τ, H3, I3, jv, kU, w3⟩ := hI
    rcases turn i n τ H3 w3 with ⟨stop, qn⟩ | ⟨go, step⟩
    · refine wpAny_bind (wpAny_standAt (wpAny_bind (wpAny_mono (T.done (gD X N' scope cl G.objs.size s2 H2 fp) rfl rfl rfl hc i [] s τ H3 (fun _ _ => False) I3 (stat kU) jv stop) (fun r s4 ⟨hr, I4⟩ => ?_) fun _ _ z => z.elim)))
      subst hr
      refine wpAny_pure ?_
      have J2 : Inv X pins σ H3 s4 := I.oe I4.os I4.base I4.hok I4.bare fun b hb => ⟨(f2 b hb).2.2.2.1, (f2 b hb).2.1, (f2 b hb).2.2.2.2.1, (f2 b hb).2.2.2.2.2⟩
      obtain ⟨mm, hm, _⟩ := I4.loc
      exact yB _ _ mm s4 H3 J2 (I.jO gJ I4.free) hm qn
    · refine wpAny_bind (wpAny_standAt (wpAny_bind (wpAny_mono (T.item (gD X N' scope cl G.objs.size s2 H2 fp) rfl rfl rfl hc i [] s τ H3 (fun _ _ => False) I3 (stat kU) jv go) (fun r s4 ⟨u, hr, h4⟩ => ?_) fun _ _ z => z.elim)))
      subst hr
      refine wpAny_bind (wpAny_mono h4 (fun _ s5 ⟨x, H5, I5, r5, y5, f9, oo⟩ => ?_) fun _ _ z => z.elim)
      have oq := I5.pinned (stat oo) (T.obj _ _ f9)
      have again : ∀ {g8 : St} {H7 : Hp} {s7 : Shared}, Inv (gD X N' scope cl G.objs.size s2 H2 fp) ([] ++ g6 fp s5.heap) g8 H7 s7 → (∃ m', m' < n ∧ W (i + 1) m' g8 H7) →
          ∃ m, m < n ∧ ∃ i τ H', Inv (gD X N' scope cl G.objs.size s2 H2 fp) [] τ H' s7 ∧ cD i s7.heap ∧ (∀ b ∈ fp, H' b = none) ∧ W i m τ H' := fun {g8 H7 s7} I7 n7 => by
        obtain ⟨m', hm, w7⟩ := n7
        refine ⟨m', hm, i + 1, g8, H7, I7.dR, T.keep _ _ _ f9 fun b hb o e => (I7.pin (b, o) (List.mem_append_right _ (List.mem_append_right _ (cA hb e)))).1, fun b hb => ?_, w7⟩
        obtain ⟨o, e, d⟩ := T.obj _ _ f9 b hb
        exact (I7.pin (b, o) (List.mem_append_right _ (List.mem_append_right _ (cA hb e)))).2.1
      refine wpAny_bind (wpAny_mono (hg cl G.objs.size s2 H2 fp _ s5 τ H5 x u _ oq r5 (step x H5 y5)) (fun _ s6 ⟨iy, H6, I6, q6⟩ => ?_) fun _ _ z => z.elim)
      refine wpAny_bind (wpAny_mono (ht cl G.objs.size s2 H2 fp _ s6 iy H6 _ I6 q6) (fun ok s7 ⟨H7, I7, q7⟩ => ?_) fun _ _ z => z.elim)
      cases ok with
      | false => exact wpAny_pure ⟨rfl, again I7 q7⟩
      | true =>
        refine wpAny_bind (wpAny_bind (wpAny_mono (he cl G.objs.size s2 H2 fp _ s7 iy H7 _ I7 q7) (fun yv s8 ⟨y, H8, I8, r8, q8⟩ => ?_) fun _ _ z => z.elim))
        obtain ⟨ys, m', hD, hsz, k7, w8⟩ := q8
        refine wpAny_bind (wpAny_mono (kZ (X := gD X N' scope cl G.objs.size s2 H2 fp) _ s8 iy H8 (.ref s2.heap.objs.size) [y] (.ref s2.heap.objs.size) [yv] (fun v H9 => v = .ao ∧ H9 = upd H8 s2.heap.objs.size (.lst (ys ++ [y]))) I8 rfl (.cons r8 .nil) ⟨_, ys, y, rfl, rfl, hD, hsz, rfl, rfl⟩) (fun rv s9 ⟨v9, H9, I9, _, _, e9⟩ => ?_) fun _ _ z => z.elim)
        subst e9
        exact wpAny_pure (wpAny_pure ⟨rfl, again I9 ⟨m', k7, w8⟩⟩)
  exact codeAny_compStart_list (loop _ rfl) (T.self _ 0 _ _ _ (T.keep _ _ _ st fun b _ o e => old b o e) (loop _ rfl))
variable {tg elt iter : Expr} {ifs : List Expr} {scope : Scope} {pos : Pos} {N' : List Str} {tn : Nat} {idx : List Nat} {wi : TI} {g : TG} {tt : TT} {te : TE}
theorem cY.turn {pins : List (Addr × Obj)} {σ : St} {H : Hp} {s : Shared} {C : Addr} {h' : Heap} (f : cY X pins H C) (I : Inv X pins σ H s) (hs : Heap.SameBut C s.heap h') : Inv X pins σ H { s with heap := h' } :=
  I.turned (t' := s.toks) (fun b o hb e => (hs.2 b hb).trans e) f.1 f.2.1 f.2.2.2.1 f.2.2.2.2.1 f.2.2.2.2.2
theorem mX (hc : X.calm = true) (B : aF X.N X.env.scope scope N' tn idx) (hi : PI X tg iter wi)
    (hg : Blk X N' scope fun Y => PG Y tg g) (ht : Blk X N' scope fun Y => iX Y ifs tt) (he : Blk X N' scope fun Y => PE Y elt te)
    (hs : ∀ x, foldedSetIterable iter X.env x = pure x := by intro _; rfl) : PE X (.ListComp elt [⟨tg, iter, ifs, 0⟩] scope pos) (oA tn idx wi g tt te) := by
  refine ⟨?_⟩
  intro pins s σ H Q I h
  obtain ⟨cl, ft, cO, ez⟩ := eT (scope := scope) (env := X.env) fun n hn => I.ok.has n ((B.2.1 _ hn).2.2 rfl)
  rw [eval_ListComp]
  refine wpAny_comprehension_free (use := none) rfl hs ft B.1 (fun y hy => (B.2.1 y hy).2.1) (wpAny_mono (hi pins s σ H _ I h) (fun xv s1 h1 => wpAny_mono h1 (fun sg s2 h2 => ?_) fun _ _ z => z) fun _ _ z => z)
  obtain ⟨it, fp, cD, J, H2, e, I2, T, kS, f2, q2⟩ := h2
  subst e
  refine qE (RR := fun acc C => compPost (model X.prog X.w) X.A X.xe none (EP X pins σ Q) acc C) hc B hg ht he I2 T kS f2 cO ez q2 fun D C m s' H' J2 fC hm q => ?_
  exact ⟨m, hm, fun h' mY => ⟨.ref D, H', fC.turn J2 mY, rfl, q⟩⟩
theorem wm {i : Nat} {y : Str} {py iY : Pos} (hN : X.N.Nodup) (d6 : X.N[i]? = some y) (hy : X.env.scope.names.lookup y = some .local) (hc : X.calm = true) (B : aF X.N X.env.scope scope N' tn idx) (hi : PI X tg iter wi)
    (hg : Blk X N' scope fun Y => PG Y tg g) (ht : Blk X N' scope fun Y => iX Y ifs tt) (he : Blk X N' scope fun Y => PE Y elt te)
    (sy : swapsWith (.ListComp elt [⟨tg, iter, ifs, 0⟩] scope pos) (some (.Name y py)) iY.line X.env = pure true := by rfl)
    (hs : ∀ x, foldedSetIterable iter X.env x = pure x := by intro _; rfl) : PS X (.Assign [.Name y py] (.ListComp elt [⟨tg, iter, ifs, 0⟩] scope pos) iY) (pG (oA tn idx wi g tt te) (oi i)) := by
  refine ⟨?_⟩
  intro pins s σ H D I h
  obtain ⟨cl, ft, cO, ez⟩ := eT (scope := scope) (env := X.env) fun n hn => I.ok.has n ((B.2.1 _ hn).2.2 rfl)
  rw [exec_Assign_Name_used _ _ _ _ sy]
  refine wpAny_bind (wpAny_standAt (wpAny_bind ?_))
  show wpAny _ X.A (do let _ ← comprehension (.ListComp elt [⟨tg, iter, ifs, 0⟩] scope pos) scope X.env _ (newList []) false (eval iter X.env) (some (assign (.Name y py) X.env))) _ _ s
  refine wpAny_bind (wpAny_mono (wpAny_comprehension_free (use := some (assign (.Name y py) X.env)) (Q := fun _ s' => SP X pins D .next s') rfl hs ft B.1 (fun y hy => (B.2.1 y hy).2.1)
    (wpAny_mono (hi pins s σ H _ I h) (fun xv s1 h1 => wpAny_mono h1 (fun sg s2 h2 => ?_) fun _ _ z => z) fun _ _ z => z)) (fun _ s' hq => wpAny_pure (wpAny_pure hq)) fun _ _ z => z)
  obtain ⟨it, fp, cD, J, H2, e, I2, T, kS, f2, q2⟩ := h2
  subst e
  refine qE (RR := fun acc C => compPost (model X.prog X.w) X.A X.xe (some (assign (.Name y py) X.env)) (fun _ s' => SP X pins D .next s') acc C) hc B hg ht he I2 T kS f2 cO ez q2 fun E C m s' H' J2 fC hm q => ?_
  show wpAny _ X.A (assign (.Name y py) X.env (.ref E)) _ _ s'
  refine wpAny_assign_Name (store_ok2 J2 hN d6 (.inl hy) (v := .ref E) rfl (fun s3 J3 ⟨a, gm, ha⟩ => ?_) (.inr hy))
  have eF : C ≠ a := by
    rcases ha with z | z
    · rw [z]; exact fC.2.1
    · exact fun w => fC.2.2.2.2.1 _ _ z w.symm
  exact ⟨m, hm.sameBut gm eF, fun h' mY => ⟨_, H', fC.turn J3 mY, q⟩⟩
end
noncomputable def Tb (P : Addr) (H : Hp) : Prop := ∃ ps, H P = some (.cC ps) ∧ TriplesOk ps.toList
section
variable {X : Cx} {pins : List (Addr × Obj)} {σ : St} {H : Hp} {s : Shared} {P : Addr} {ps more : Array Value} {h' : Heap}
theorem Inv.grown (I : Inv X pins σ H s) (hP : H P = some (.cC ps)) (k : ∀ b o, b ≠ P → s.heap.get? b = some o → h'.get? b = some o) (n : h'.get? P = some { cls := .none, data := .fields (ps ++ more) }) (t' : Nat) :
    Inv X pins σ (upd H P (.cC (ps ++ more))) { s with heap := h', toks := t' } := by
  have ne : ∀ b u, H b = some u → u ≠ .cC ps → b ≠ P := fun b u e d => vU e hP d
  have nn : ∀ b, H b = none → b ≠ P := fun b e z => by rw [z, hP] at e; cases e
  refine I.un ⟨fun b o e q _ _ => k b o (nn b q) e, fun b o e q _ _ => ⟨o.slots, k b o (nn b q) e⟩, fun b o e q _ => by rw [ae (nn b q)]; exact q, fun b o e _ => ?_, fun b xs e => by rw [ae (ne b _ e (by intro z; cases z))]; exact e,
    fun b o u e => by rw [ae (ne b _ e (by intro z; cases z))]; exact e, fun b qs e => ?_⟩ fun b u e => ?_
  · by_cases hb : b = P
    · subst hb; exact ⟨_, n⟩
    · exact ⟨o, k b o hb e⟩
  · by_cases hb : b = P
    · subst hb
      rw [hP] at e; cases e
      exact ⟨more, ay⟩
    · exact ⟨#[], by rw [ae hb, e]; simp⟩
  · by_cases hb : b = P
    · subst hb
      rw [ay] at e; cases e
      exact n
    · rw [ae hb] at e
      refine (I.hok b u e).bT (fun c v hc q => k c v ?_ q) (fun c q => ?_) fun c xs q => ?_
      · rcases hc with z | z
        · rw [z]; exact hb
        · exact ne c _ z (by intro w; cases w)
      · rw [ae (ne c _ q (by intro w; cases w))]; exact q
      · rw [ae (ne c _ q (by intro w; cases w))]; exact q
theorem pL {c : Addr} {pos : Pos} {qn : Str} {scope : Scope} {Q : Value → Shared → Prop} {A : Around} {E : Value → Shared → Prop} (I : Inv X pins σ H s) (hc : X.env.code = .ref c) (hd : PySem.W.CodeHd X.base c P) (hP : H P = some (.cC ps)) (ht : TriplesOk ps.toList)
    (h : ∀ code gp s', TriplesOk gp.toList → Inv X pins σ (upd H P (.cC gp)) s' → (∀ b o, b ≠ P → s.heap.get? b = some o → s'.heap.get? b = some o) → s'.gens = s.gens → Q code s') : wpAny (model X.prog X.w) A (genexprCode X.env pos qn scope) Q E s := by
  have sA : s.heap.get? P = some (PySem.W.tabObj ps) := I.hok P _ hP
  have ju := hd.keeps I.bk
  have ic := ju.code sA ht
  cases q : codeAmong pos ps.toList with
  | some c' =>
    refine wpAny_genexprCode_hit hc ic q (h c' ps s ht ?_ (fun _ _ _ e => e) rfl)
    have e : upd H P (.cC ps) = H := by
      funext b
      by_cases hb : b = P
      · subst hb; rw [ay, hP]
      · rw [ae hb]
    rw [e]; exact I
  | none =>
    refine wpAny_genexprCodeX hc ic (ju.tab sA) q fun c' h' tk ex h1 h2 Pq _ ta _ => ?_
    obtain ⟨_, CC⟩ := ta
    have tr : TriplesOk (ps ++ #[rawInt pos.line, rawInt pos.col, Value.ref c']).toList := by
      rw [Array.toList_append]
      exact TriplesOk_snoc _ _ _ _ ht
    exact h _ _ _ tr (I.grown hP (fun b o hb e => ex b o hb e) CC tk) (fun b o hb e => ex b o hb e) rfl
end
noncomputable def nC (s cf : Shared) : Prop := cf.heap = s.heap ∧ cf.os = s.os ∧ Gn s.gens.size cf.gens
theorem Inv.nE {X : Cx} {pins : List (Addr × Obj)} {σ : St} {H : Hp} {s cf : Shared} (I : Inv X pins σ H s) (o : nC s cf) : Inv X pins σ H cf := by
  obtain ⟨h, g, d, t, os⟩ := s
  obtain ⟨h', g', d', t', CA⟩ := cf
  obtain ⟨e1, e2, e3⟩ := o
  cases e1
  cases e2
  exact ⟨I.ok, I.os, I.bare.trans e3, I.base, I.loc, I.cell, I.free, I.freeC, I.pin, I.hok, I.len⟩
section
variable {Y : Cx} {A2 : Around} {tg elt iter : Expr} {ifs : List Expr} {scope : Scope} {pos : Pos} {it : Addr} {fp : List Addr} {cD : Nat → Heap → Prop} {J : It} {g : TG} {tt : TT} {te : TE} {pp : List (Addr × Obj)} {R : GenEnd} {Yp : Protocol}
noncomputable def F6 (J : It) (g : TG) (tt : TT) (te : TE) (stopAt : Bool) (Z : Bool → Hp → Prop) (W : Nat → Nat → St → Hp → Prop) : Prop := ∀ i m τ H, W i m τ H →
  (J.stop i H ∧ Z (!stopAt) H) ∨ (J.go i H ∧ ∀ x H', J.yld i H x H' → g x τ H' fun aC H2 => tt aC H2 fun b H3 => if b = true then te aC H3 fun y H4 => ∃ c, y = .bl c ∧ (if c = stopAt then Z stopAt H4 else ∃ m', m' < m ∧ W (i + 1) m' aC H4) else ∃ m', m' < m ∧ W (i + 1) m' aC H3)
theorem A9 (hA : Y.A = A2.over (.compLoop (.GeneratorExp elt [⟨tg, iter, ifs, 0⟩] scope pos) 0 (.ref it) .none Y.env) []) (F7 : Y.xe = fun _ _ => False) (hc : Y.calm = true) (qG : Y.env.scope.isCoroutine = false)
    (T : Turn Y.prog Y.w Y.K tg J fp it cD) (hg : PG Y tg g) (ht : iX Y ifs tt) (he : PE Y elt te) (stat : ∀ {H' : Hp}, (∀ b ∈ fp, H' b = none) → ∀ b ∈ fp, cY Y pp H' b)
    {W : Nat → Nat → St → Hp → Prop} {Z : Bool → Hp → Prop} {stopAt : Bool} (turn : F6 J g tt te stopAt Z W)
    (hR : ∀ n s₀ az τ H, Inv Y pp τ H az → Z (!stopAt) H → R n s₀ (.ok .next) az)
    (hY : ∀ n s₀ s sC c τ H, Inv Y pp τ H s → (c = stopAt → Z stopAt H) → (c ≠ stopAt → ∀ cf, nC s cf → sC (.send .none) cf) → Yp n s₀ (.bool c) s sC) :
    ∀ (m n i : Nat) (τ : St) (H : Hp) (s s₀ : Shared), m < n → W i m τ H → Inv Y pp τ H s → cD i s.heap → (∀ b ∈ fp, H b = none) →
      Seg (model Y.prog Y.w) A2 R Yp n s₀ (.compLoop (.GeneratorExp elt [⟨tg, iter, ifs, 0⟩] scope pos) 0 (.ref it) .none Y.env)
        ((model Y.prog Y.w).den (.compLoop (.GeneratorExp elt [⟨tg, iter, ifs, 0⟩] scope pos) 0 (.ref it) .none Y.env)) [] s := by
  intro m
  induction m using Nat.strongRecOn with
  | ind m ih =>
    intro n i τ H s s₀ Pr w I st fr
    show Seg _ A2 _ _ _ s₀ _ ((compTurn (.GeneratorExp elt [⟨tg, iter, ifs, 0⟩] scope pos) 0 (.ref it) .none Y.env).onRaise (leaving Y.env)) [] s
    rw [compTurn_gen, Sem.onRaise_eq_wrap]
    rcases turn i m τ H w with ⟨stop, qn⟩ | ⟨go, step⟩
    · refine seg_bind_wrap (wpAny_standAt ?_)
      have d := T.done Y rfl rfl rfl hc i pp s τ H (fun _ _ => False) I (stat fr) st stop
      rw [hA] at d
      refine seg_bind_wrap (wpAny_mono d (fun r s1 ⟨hr, I1⟩ => ?_) fun _ _ z => z.elim)
      subst hr
      exact seg_end (.ok .next) (hR _ _ _ _ _ I1 qn)
    · refine seg_bind_wrap (wpAny_standAt ?_)
      have d := T.item Y rfl rfl rfl hc i pp s τ H (fun _ _ => False) I (stat fr) st go
      rw [hA] at d
      refine seg_bind_wrap (wpAny_mono d (fun r s4 ⟨u, hr, h4⟩ => ?_) fun _ _ z => z.elim)
      subst hr
      refine seg_bind_wrap (wpAny_mono h4 (fun _ s5 ⟨x, H5, I5, r5, y5, f9, oo⟩ => ?_) fun _ _ z => z.elim)
      have oq := I5.pinned (stat oo) (T.obj _ _ f9)
      have back : ∀ {g8 : St} {H7 : Hp} {s7 : Shared}, Inv Y (pp ++ g6 fp s5.heap) g8 H7 s7 → cD (i + 1) s7.heap ∧ ∀ b ∈ fp, H7 b = none := fun {g8 H7 s7} I7 => by
        refine ⟨T.keep _ _ _ f9 fun b hb o e => (I7.pin (b, o) (List.mem_append_right _ (List.mem_append_right _ (cA hb e)))).1, fun b hb => ?_⟩
        obtain ⟨o, e, d⟩ := T.obj _ _ f9 b hb
        exact (I7.pin (b, o) (List.mem_append_right _ (List.mem_append_right _ (cA hb e)))).2.1
      have d2 := hg _ s5 τ H5 x u _ oq r5 (step x H5 y5)
      rw [hA, F7] at d2
      refine seg_bind_wrap (wpAny_mono d2 (fun _ s6 ⟨iy, H6, I6, q6⟩ => ?_) fun _ _ z => z.elim)
      have d3 := ht _ s6 iy H6 _ I6 q6
      rw [hA, F7] at d3
      refine seg_bind_wrap (wpAny_mono d3 (fun ok s7 ⟨H7, I7, q7⟩ => ?_) fun _ _ z => z.elim)
      have hy : ∀ v, yieldOut Y.env v = yieldValue v := fun v => by simp only [yieldOut, qG, Bool.false_eq_true, if_false]
      cases ok with
      | false =>
        simp only [Bool.false_eq_true, if_false] at q7 ⊢
        obtain ⟨m', k7, w7⟩ := q7
        exact seg_again rfl (ih m' k7 n (i + 1) iy H7 s7 s₀ (by omega) w7 I7.dR (back I7).1 (back I7).2)
      | true =>
        simp only [if_true] at q7 ⊢
        simp only [hy]
        rw [Sem.bind_eq_wrap', Sem.bind_eq_wrap', Sem.wrap_wrap, Sem.wrap_wrap]
        have d4 := he _ s7 iy H7 _ I7 q7
        rw [hA, F7] at d4
        refine seg_wrap (wpAny_mono d4 (fun yv s8 ⟨y, H8, I8, r8, q8⟩ => ?_) fun _ _ z => z.elim)
        obtain ⟨c, ey, q8⟩ := q8
        subst ey
        cases (show yv = Value.bool c from r8)
        obtain ⟨n, rfl⟩ : ∃ n', n = n' + 1 := ⟨n - 1, by omega⟩
        refine seg_at (seg_yield rfl rfl rfl (hY _ _ _ _ c iy H8 I8.dR (fun e => by rw [if_pos e] at q8; exact q8) fun e cf ok => ?_))
        rw [if_neg e] at q8
        obtain ⟨m', k7, w8⟩ := q8
        have I9 := I8.nE ok
        exact seg_again rfl (ih m' k7 n (i + 1) iy H8 cf cf (by omega) w8 I9.dR (back I9).1 (back I9).2)
end
noncomputable abbrev dS (elt tg iter : Expr) (ifs : List Expr) (scope : Scope) (pos : Pos) : Expr := .GeneratorExp elt [⟨tg, iter, ifs, 0⟩] scope pos
noncomputable abbrev F8 (X : Cx) (N' : List Str) (scope : Scope) (cl : List (Str × Addr)) (C : Addr) (code : Value) (A' : Around) (s : Shared) (H : Hp) (fp : List Addr) : Cx :=
  cxBlock X N' (genEnv scope cl C code builtinsNs X.env) A' (genEnv scope cl C code builtinsNs X.env :: X.stack) s H fp
noncomputable abbrev nF (X : Cx) (N' : List Str) (scope : Scope) (k : Nat) (P : Cx → Prop) : Prop := ∀ (cl : List (Str × Addr)) (C : Addr) (code : Value) (A' : Around) (s : Shared) (H : Hp) (fp : List Addr), bL k A' → P (F8 X N' scope cl C code A' s H fp)
structure LR (X : Cx) (pins : List (Addr × Obj)) (σ : St) (N' : List Str) (scope : Scope) (tn : Nat) (idx : List Nat) (k : Nat) (elt tg iter : Expr) (ifs : List Expr) (pos : Pos) (J : It) (H3 : Hp) (a : Addr) (s5 : Shared)
    (Y : Cx) (it : Addr) (fp : List Addr) (cD : Nat → Heap → Prop) (g : Nat) (pp : List (Addr × Obj)) : Prop where
  inv : Inv Y pp (bh tn idx σ) H3 s5
  isg : ∀ {τ : St} {H' : Hp} {s' : Shared}, Inv Y pp τ H' s' → s'.heap.IsGen a g
  st : s5.gens[g]? = some (.fresh (.compStart (dS elt tg iter ifs scope pos) 0 (.ref it) .none Y.env))
  T : Turn Y.prog Y.w Y.K tg J fp it cD
  tn0 : cD 0 s5.heap
  fr : ∀ b ∈ fp, H3 b = none
  stat : ∀ {H' : Hp}, (∀ b ∈ fp, H' b = none) → ∀ b ∈ fp, cY Y pp H' b
  out : ∀ {τ : St} {H' : Hp} {s' : Shared}, Inv Y pp τ H' s' → Inv X pins σ H' s'
  A : Y.A = X.A.in4.in1.over (.compLoop (dS elt tg iter ifs scope pos) 0 (.ref it) .none Y.env) []
  xe : Y.xe = fun _ _ => False
  calm : Y.calm = true
  co : Y.env.scope.isCoroutine = false
  gsz : ∀ {τ : St} {H' : Hp} {s' : Shared}, Inv Y pp τ H' s' → g < s'.gens.size
  blk : ∀ P : Cx → Prop, nF X N' scope k P → P Y
  prog : Y.prog = X.prog
  w : Y.w = X.w
section
variable {X : Cx} {tg elt iter : Expr} {ifs : List Expr} {scope : Scope} {pos : Pos} {N' : List Str} {tn : Nat} {idx : List Nat} {wi : TI} {g : TG} {tt : TT} {te : TE} {c P : Addr} {k : Nat}
noncomputable def F9 (P : Addr) (wi : TI) (R : It → Hp → Prop) : St → Hp → Prop := fun σ H => wi σ H fun J H1 => Tb P H1 ∧ ∀ ps, TriplesOk ps.toList → R J (upd H1 P (.cC ps))
theorem Ba {pins : List (Addr × Obj)} {s : Shared} {σ : St} {H : Hp} {QQ : Value → Shared → Prop} {R : It → Hp → Prop} (hr : bL (k + 1) X.A) (hc : X.calm = true) (B : aF X.N X.env.scope scope N' tn idx)
    (h0 : scope.names.lookup (".0" : Str) = some .local) (qG : scope.isCoroutine = false) (fu : X.env.code = .ref c) (hd : PySem.W.CodeHd X.base c P) (eA : ∃ bm ob, BMod X.base mainGlobals X.mg bm ob)
    (hi : PI X tg iter wi) (hs : ∀ x, genFold iter X.env x = pure x) (I : Inv X pins σ H s) (h : F9 P wi R σ H)
    (q : ∀ J H3 a s5 Y it fp cD gn pp, LR X pins σ N' scope tn idx k elt tg iter ifs pos J H3 a s5 Y it fp cD gn pp → R J H3 → QQ (.ref a) s5) :
    wpAny (model X.prog X.w) X.A (eval (dS elt tg iter ifs scope pos) X.env) QQ X.xe s := by
  obtain ⟨cl, ft, cO, ez⟩ := eT (scope := scope) (env := X.env) fun n hn => I.ok.has n ((B.2.1 _ hn).2.2 rfl)
  refine wpAny_GeneratorExp_make qG ft (fun y hy => (B.2.1 y hy).1) h0 B.1 hr.depth (thn (hi pins s σ H _ I h) fun xv s1 h1 => thn h1 fun sg s2 h2 => ?_) hs
  obtain ⟨it, fp, cD, J, H2, e, I2, T, kS, f2, ⟨ps, hP, k8⟩, q2⟩ := h2
  subst e
  refine ⟨I2.nolimit, pL I2 fu hd hP k8 fun code gp s3 MU I3 kp Pt => ?_⟩
  obtain ⟨bm, ob, bmod⟩ := eA
  have fQ := bmod.keeps I3.bk
  refine wpAny_builtinsFor (by rw [I3.ok.glob]; exact fQ.ns) fQ.name fQ.ne fQ.obj fQ.cls fQ.dict fQ.data ?_
  intro h' xW mY
  have Ke : ∀ b ∈ fp, b ≠ P := fun b hb z => by have := (f2 b hb).1; rw [z, hP] at this; cases this
  have jv : cD 0 s3.heap := T.keep _ _ _ kS fun b hb o e => kp b o (Ke b hb) e
  have ix : ∀ b ∈ fp, b < s3.heap.objs.size := fun b hb => let ⟨o, e, _⟩ := T.obj _ _ jv b hb; Heap.lt_size e
  have f3 : ∀ b ∈ fp, cY X pins (upd H2 P (.cC gp)) b := fun b hb => ⟨by rw [ae (Ke b hb)]; exact (f2 b hb).1, (f2 b hb).2⟩
  have hsz : h'.objs.size = s3.heap.objs.size + 1 := by rw [mY.1, Heap.size_push]
  have Jl : ∀ b o, s3.heap.get? b = some o → h'.get? b = some o := fun b o e => mY.extBut b o (Nat.ne_of_lt (Heap.lt_size e)) (Heap.get?_push_of_some _ e)
  have Kf : Gn s3.gens.size (s3.gens.push (.fresh (.compStart (dS elt tg iter ifs scope pos) 0 (.ref it) .none (genEnv scope cl s3.heap.objs.size code builtinsNs X.env)))) := ⟨AllBare.push I3.bare.1 rfl, by rw [Array.size_push]; exact Nat.le_succ _⟩
  have Kg : Inv X pins σ (upd H2 P (.cC gp)) { s3 with gens := s3.gens.push (.fresh (.compStart (dS elt tg iter ifs scope pos) 0 (.ref it) .none (genEnv scope cl s3.heap.objs.size code builtinsNs X.env))) } := I3.nE ⟨rfl, rfl, Kf⟩
  have hA : (X.A.in4.in1.over (.compLoop (dS elt tg iter ifs scope pos) 0 (.ref it) .none (genEnv scope cl s3.heap.objs.size code builtinsNs X.env)) []).frames = some (genEnv scope cl s3.heap.objs.size code builtinsNs X.env :: X.stack) := by
    show pushEnvs [_] (pushEnvs [] X.A.frames) = _
    rw [I.ok.frames]; rfl
  have kf : bL k (X.A.in4.in1.over (.compLoop (dS elt tg iter ifs scope pos) 0 (.ref it) .none (genEnv scope cl s3.heap.objs.size code builtinsNs X.env)) []) := by
    refine ⟨hr.hd, ?_, ?_⟩
    · show X.A.depth + 0 + 1 + 3 * k + 5 < recursionLimit
      have := hr.dp
      omega
    · show X.A.units + 1 + 1 + 1 + 1 + 1 + 0 + 3 + 16 * k + 200 < cLine
      have := hr.un
      omega
  generalize sD : ({ cls := .type "generator", data := .fields #[.int s3.gens.size 0, .str "<genexpr>" (s3.toks + 1), .str (X.env.qual ++ "<genexpr>") (s3.toks + 1 + 1)] } : Obj) = mZ
  have rS : ∀ b o, s3.heap.get? b = some o → (h'.push mZ).get? b = some o := fun b o e => Heap.get?_push_of_some _ (Jl b o e)
  have LU : mZ.isFreed = false := by rw [← sD]; rfl
  have MV : (h'.push mZ).get? h'.objs.size = some mZ := Heap.get?_push_size _ LU
  have MX : h'.objs.size ≠ s3.heap.objs.size := by rw [hsz]; exact Nat.succ_ne_self _
  have MY : upd H2 P (.cC gp) h'.objs.size = none := I3.hok.fresh (by rw [hsz]; exact Nat.le_succ _)
  have I5 := k4 (X := X) (N' := N') (A' := X.A.in4.in1.over (.compLoop (dS elt tg iter ifs scope pos) 0 (.ref it) .none (genEnv scope cl s3.heap.objs.size code builtinsNs X.env)) []) (env' := genEnv scope cl s3.heap.objs.size code builtinsNs X.env) (stack' := genEnv scope cl s3.heap.objs.size code builtinsNs X.env :: X.stack) (ex := fp) (h1 := h'.push mZ) (m0 := fun y => if y = ".0" then some (.ref it) else none)
    (g' := s3.gens.push (.fresh (.compStart (dS elt tg iter ifs scope pos) 0 (.ref it) .none (genEnv scope cl s3.heap.objs.size code builtinsNs X.env)))) (tk := s3.toks + 1 + 1 + 1) (aG := bh tn idx σ) Kg B.1 rfl I3.ok.blt.symm cO (fun x hx => by
      have gE : scope.names.lookup x = some .cell ∨ scope.names.lookup x = some .free := hx
      rcases gE with z | z
      · exact absurd rfl ((B.2.1 _ (PySem.mem_of_lookup z)).1)
      · exact ez x (PySem.mem_of_lookup z)) (fun z => I.ok.hd z) hA (.inr ⟨rfl, rfl⟩) (Nat.le_refl _) f3 ix (Un.kept rS) (I3.hok.kept rS) (I3.hok.fresh (Nat.le_refl _)) rS (xW.push _) (fun i x v e1 e2 e3 => by
      obtain ⟨fr, j, e4, e5⟩ := B.at e1 e2
      have kx := (B.2.1 _ (PySem.mem_of_lookup fr)).2.2 rfl
      exact ⟨.inr fr, .inr kx, kx, j, e4, e5⟩) (B.len σ) (Gn.self Kf)
  have MZ : h'.objs.size ∉ dO X.stack := fun z => by
    rcases List.mem_cons.mp (I3.eC _ z) with q | q
    · exact Nat.ne_of_gt (Nat.lt_of_lt_of_le I3.lt (by rw [hsz]; exact Nat.le_succ _)) q
    · exact I3.E4 (by rw [hsz]; exact Nat.le_succ _) q
  have rR : ∀ v, mZ.data ≠ .cell v := by rw [← sD]; intro v z; cases z
  have I6 := I5.pF (pins' := [(h'.objs.size, mZ)]) (fun p hp => by
    rcases List.mem_singleton.mp hp with rfl
    exact ⟨MV, MY, MX, MZ, rR⟩)
  refine q J _ _ _ (F8 X N' scope cl s3.heap.objs.size code _ _ _ fp) it fp cD s3.gens.size [(h'.objs.size, mZ)] ⟨I6, fun {τ H' s'} J' => ?_, ?_, T, T.keep _ _ _ jv fun b _ o e => rS b o e, fun b hb => (f3 b hb).1, fun {H'} hn b hb => ?_, fun {τ H' s'} J' => ?_, rfl, rfl, hc, qG, fun {τ H' s'} J' => ?_, fun Pp hb => hb cl _ code _ _ _ fp kf, rfl, rfl⟩ (q2 gp MU)
  · have := (J'.pin (h'.objs.size, mZ) (List.mem_append_right _ (List.mem_singleton.mpr rfl))).1
    exact ⟨mZ, _, _, this, by rw [← sD], by rw [← sD], by rw [← sD]⟩
  · exact Array.getElem?_push_size ..
  · refine ⟨hn b hb, Nat.ne_of_lt (ix b hb), fun z => ?_, .inl hb, fun x c e => (f2 b hb).2.2.2.2.1 x c (cO x c e), fun p hp z => ?_⟩
    · rcases List.mem_cons.mp (I2.eC b z) with q | q
      · exact (f2 b hb).2.1 q
      · exact (f2 b hb).2.2.1 q
    · rcases List.mem_singleton.mp hp with rfl
      have z' : h'.objs.size = b := z
      have := ix b hb
      rw [← z', hsz] at this
      exact absurd this (Nat.not_lt.mpr (Nat.le_succ _))
  · exact Kg.oe J'.os J'.base J'.hok J'.bare fun b hb => ⟨(f3 b hb).2.2.2.1, (f3 b hb).2.1, (f3 b hb).2.2.2.2.1, (f3 b hb).2.2.2.2.2⟩
  · have := J'.bare.2
    have e : (F8 X N' scope cl s3.heap.objs.size code (X.A.in4.in1.over (.compLoop (dS elt tg iter ifs scope pos) 0 (.ref it) .none (genEnv scope cl s3.heap.objs.size code builtinsNs X.env)) []) { s3 with gens := s3.gens.push (.fresh (.compStart (dS elt tg iter ifs scope pos) 0 (.ref it) .none (genEnv scope cl s3.heap.objs.size code builtinsNs X.env))) } (upd H2 P (.cC gp)) fp).s₀.gens.size = s3.gens.size + 1 := by
      show (s3.gens.push _).size = _
      rw [Array.size_push]
    rw [e] at this
    omega
theorem Bb {prog : Program} {w : World} {A : Around} {a : Addr} {R' : Result → Shared → Prop} (In : Nat → Shared → Prop)
    (turn : ∀ n s, In n s → wpAny (model prog w) A.in1 (pyNext (.ref a)) (fun r s1 => match r with
      | none => R' (.ok (.ret (.bool true))) s1
      | some v => ∃ c, v = .bool c ∧ if c = true then ∃ m, m < n ∧ In m s1 else R' (.ok (.ret (.bool false))) s1) (fun e s' => R' (.error e) s') s) :
    ∀ (n : Nat) (s : Shared), In n s → codeAny (model prog w) A (.builtin "all.loop" ⟨[.ref a], []⟩) R' s := by
  intro n
  induction n using Nat.strongRecOn with
  | ind n ih =>
    intro s h
    refine codeAny_builtin F.entry_all_loop ?_
    rw [Around.under_plainId F.plain_all_loop _]
    show wpAny _ A.in1 (pyNext (.ref a) >>= _) _ _ s
    refine wpAny_bind (wpAny_mono (turn n s h) (fun r s1 q => ?_) fun _ _ z => z)
    cases r with
    | none => exact wpAny_bind (wpAny_rule (wpAny_pure q))
    | some v =>
      obtain ⟨c, e, q⟩ := q
      subst e
      refine wpAny_bind (wpAny_holding (wpAny_truthy_bool ?_))
      refine wpAny_bind (wpAny_letGo ?_)
      cases c with
      | true =>
        simp only [if_true] at q ⊢
        obtain ⟨m, hm, hI⟩ := q
        exact wpAny_pure ⟨plainId_quiet F.plain_all_loop _, ih m hm s1 hI⟩
      | false =>
        simp only [Bool.false_eq_true, if_false] at q ⊢
        exact wpAny_bind (wpAny_rule (wpAny_pure q))
theorem k9 {s : Shared} {g : Nat} {x : GenState} {n : Nat} (h : Gn n s.gens) (hx : x.bare = true) : Gn s.gens.size (s.setGen g x).gens := by
  refine ⟨fun y hy => ?_, ?_⟩
  · have M6 : y ∈ s.gens.setIfInBounds g x := hy
    rcases Array.mem_or_eq_of_mem_setIfInBounds M6 with z | z
    · exact h.1 y z
    · rw [z]; exact hx
  · show s.gens.size ≤ (s.gens.setIfInBounds g x).size
    rw [Array.size_setIfInBounds]
    exact Nat.le_refl _
theorem yD {s : Shared} {g : Nat} {x : GenState} (h : g < s.gens.size) : (s.setGen g x).gens[g]? = some x := by
  show (s.gens.setIfInBounds g x)[g]? = _
  rw [Array.getElem?_setIfInBounds_self]
  simp [h]
theorem yE {Y : Cx} {A2 : Around} {R : GenEnd} {Yp : Protocol} {n : Nat} {s₀ s : Shared} {it : Addr} {J : It} {fp : List Addr} {cD : Nat → Heap → Prop} (T : Turn Y.prog Y.w Y.K tg J fp it cD) {i : Nat} (st : cD i s.heap)
    (loop : Seg (model Y.prog Y.w) A2 R Yp n s₀ (.compLoop (dS elt tg iter ifs scope pos) 0 (.ref it) .none Y.env) ((model Y.prog Y.w).den (.compLoop (dS elt tg iter ifs scope pos) 0 (.ref it) .none Y.env)) [] s) :
    Seg (model Y.prog Y.w) A2 R Yp n s₀ (.compStart (dS elt tg iter ifs scope pos) 0 (.ref it) .none Y.env) ((model Y.prog Y.w).den (.compStart (dS elt tg iter ifs scope pos) 0 (.ref it) .none Y.env)) [] s := by
  show Seg _ A2 _ _ _ s₀ _ ((compStart (dS elt tg iter ifs scope pos) 0 (.ref it) .none Y.env).onRaise (leaving Y.env)) [] s
  unfold compStart
  rw [Sem.onRaise_eq_wrap]
  show Seg _ A2 _ _ _ s₀ _ ((ask >>= _).wrap _ _ _ _) [] s
  refine seg_bind_wrap (wpAny_askSetting ?_)
  split
  · exact seg_again rfl loop
  · first
      | exact seg_bind_wrap (wpAny_rule (seg_bind_wrap (wpAny_standAt (seg_bind_wrap (T.self _ i s _ _ st (seg_again rfl loop))))))
      | (refine seg_bind_wrap (wpAny_rule ?_); show Seg _ A2 _ _ _ s₀ _ ((standAt iter.pos >>= _).wrap _ _ _ _) [] s; exact seg_bind_wrap (wpAny_standAt (seg_bind_wrap (T.self _ i s _ _ st (seg_again rfl loop)))))
noncomputable def Ga (P : Addr) (tn : Nat) (idx : List Nat) (wi : TI) (g : TG) (tt : TT) (te : TE) : TE := fun σ H Q => F9 P wi (fun J H1 => ∃ W : Nat → Nat → St → Hp → Prop, (∃ m, W 0 m (bh tn idx σ) H1) ∧ F6 J g tt te false (fun b H2 => Q (.bl b) H2) W) σ H
theorem Gb {p sE : Pos} (hr : bL (k + 1) X.A) (hc : X.calm = true) (B : aF X.N X.env.scope scope N' tn idx)
    (h0 : scope.names.lookup (".0" : Str) = some .local) (qG : scope.isCoroutine = false) (fu : X.env.code = .ref c) (hd : PySem.W.CodeHd X.base c P) (eA : ∃ bm ob, BMod X.base mainGlobals X.mg bm ob)
    (vd : Gl X "all") (hm : X.mg "all" = none) (hi : PI X tg iter wi) (hg : nF X N' scope k fun Y => PG Y tg g) (ht : nF X N' scope k fun Y => iX Y ifs tt) (he : nF X N' scope k fun Y => PE Y elt te)
    (hs : ∀ x, genFold iter X.env x = pure x := by intro _; rfl) : PE X (.Call (.Name "all" p) [dS elt tg iter ifs scope sE] [] pos) (Ga P tn idx wi g tt te) := by
  refine ⟨?_⟩
  intro pins s σ H Q I h
  refine wpAny_Call_Name_kw (f6 I vd hm PyProof.Rows.boot_all ?_)
  refine PyProof.Rows.callWith_builtin1 ?_ rfl rfl
  show wpAny _ _ (spliced ((false, eval (dS elt tg iter ifs scope sE) X.env) :: [])) _ _ s
  refine Calls.spliced_cons (Ba hr hc B h0 qG fu hd eA hi hs I h ?_)
  intro J H3 a s5 Y it fp cD gn pp G ⟨W, ⟨m0, w0⟩, turn⟩
  refine Calls.spliced_nil ?_
  refine call_function_tree F.kind_all F.plain_all F.entry_all (F.args_all1 _) ?_
  unfold Builtin.«all»
  refine wpAny_bind (m := oneArg "all" _) (wpAny_pure ?_)
  refine wpAny_bind (wpAny_pyIter_gen (G.isg G.inv) ?_)
  refine wpAny_pure ⟨plainId_quiet F.plain_all_loop _, ?_⟩
  have Gd := A9 (A2 := X.A.in4.in1) (pp := pp) (R := fun n s₀ r az => r = .ok .next ∧ ∃ τ H, Inv Y pp τ H az ∧ Q (.bl true) H)
    (Yp := fun n s₀ v s sC => ∃ c τ H, v = .bool c ∧ Inv Y pp τ H s ∧ (c = false → Q (.bl false) H) ∧ (c ≠ false → ∀ cf, nC s cf → sC (.send .none) cf)) G.A G.xe G.calm G.co G.T (G.blk _ hg) (G.blk _ ht) (G.blk _ he) G.stat turn
    (fun n s₀ az τ H J z => ⟨rfl, τ, H, J, z⟩) (fun n s₀ s sC c τ H J z1 z2 => ⟨c, τ, H, rfl, J, z1, z2⟩)
  have hP := G.prog
  have hW := G.w
  rw [hP, hW] at Gd
  refine Bb (A := X.A) (fun n s => (∃ τ H, Inv Y pp τ H s) ∧ ∃ gs, s.gens[gn]? = some gs ∧ ∀ cf, nC s cf → gs.Goes (model X.prog X.w) X.A.in4.in1 (fun n s₀ r az => r = .ok .next ∧ ∃ τ H, Inv Y pp τ H az ∧ Q (.bl true) H)
    (fun n s₀ v s sC => ∃ c τ H, v = .bool c ∧ Inv Y pp τ H s ∧ (c = false → Q (.bl false) H) ∧ (c ≠ false → ∀ cf, nC s cf → sC (.send .none) cf)) n (.send .none) cf) ?_ (m0 + 1) s5 ?_
  · rintro n s6 ⟨⟨τ, H6, I6⟩, gs, M7, sD⟩
    have Pa := G.gsz I6
    refine wpAny_of_in1 (wpAny_of_in1 (wpAny_of_in1 ?_))
    show wpAny (model X.prog X.w) X.A.in4 (pyNext (.ref a)) _ _ s6
    refine wpAny_pyNext_genexpQ (A := X.A.in4) (P := fun n s₀ az => ∃ τ H, Inv Y pp τ H az ∧ Q (.bl true) H) hr.hd I6.nolimit hr.depth (G.isg I6) M7 (sD _ ⟨rfl, rfl, k9 I6.bare rfl⟩) (fun v s1 Kh hb hv => ?_) (fun s1 hp h' hk => ?_)
    · obtain ⟨c, Ki, H1, e, I1, z1, z2⟩ := hv
      subst e
      refine ⟨c, rfl, ?_⟩
      have yF : nC s1 (s1.setGen gn Kh) := ⟨rfl, rfl, k9 I1.bare hb⟩
      cases c with
      | false =>
        rw [if_neg Bool.false_ne_true]
        exact ⟨.bl false, H1, G.out (I1.nE yF), rfl, z1 rfl⟩
      | true =>
        rw [if_pos rfl]
        have z3 := z2 (by decide)
        cases n with
        | zero => exact (z3 s1 ⟨rfl, rfl, I1.bare.self⟩).elim
        | succ m =>
          refine ⟨m, Nat.lt_succ_self _, ⟨Ki, H1, I1.nE yF⟩, Kh, yD (G.gsz I1), fun cf o => z3 cf ⟨o.1, o.2.1, ?_⟩⟩
          exact yF.2.2.trans o.2.2
    · obtain ⟨Ki, H1, I1, z1⟩ := hp
      have I2 := I1.kept (t' := s1.toks) hk
      have M8 : nC { s1 with heap := h' } { s1.setGen gn .finished with heap := h' } := ⟨rfl, rfl, k9 (s := s1) I1.bare rfl⟩
      exact ⟨.bl true, H1, G.out (I2.nE M8), rfl, z1⟩
  · refine ⟨⟨_, _, G.inv⟩, _, G.st, fun cf o => ⟨rfl, ?_⟩⟩
    have I7 := G.inv.nE o
    have Kj : cD 0 cf.heap := by rw [o.1]; exact G.tn0
    have q := yE (iter := iter) (ifs := ifs) (scope := scope) (pos := sE) (elt := elt) G.T Kj (by rw [hP, hW]; exact Gd m0 (m0 + 1) 0 _ _ cf cf (Nat.lt_succ_self _) w0 I7 Kj G.fr)
    rw [hP, hW] at q
    exact q
end
section
variable {X : Cx} {tg l : Expr} {tl : TE}
theorem cg {xs : List V} {us : List Value} (r : Vals xs us) {j : Nat} (h : j < us.toArray.size) : RelV (xs.getD j .ao) us.toArray[j] := by
  have hl := r.length
  have hj : j < xs.length := by simpa [hl] using h
  obtain ⟨u, e, q⟩ := r.get (i := j) (x := xs[j]) (List.getElem?_eq_getElem hj)
  have e2 : us.toArray[j] = u := by
    rw [List.getElem?_eq_some_iff] at e
    obtain ⟨h', e⟩ := e
    simpa using e
  rw [e2, List.getD_eq_getElem?_getD, List.getElem?_eq_getElem hj]
  exact q
theorem uH : de X (.builtin "isinstance") (fun xs H Q => ∃ x T t b, xs = [x, .ty T] ∧ fy X.K H x t ∧ PySem.W.kitOne X.K t (.type T) = some b ∧ Q (.bl b) H) := by
  intro pins s σ H xs us Q I r h
  obtain ⟨x, T, t, b, rfl, ty, e, q⟩ := h
  obtain ⟨u, w', rfl, r1, r2⟩ := vals2 r
  cases (show w' = Value.type T from r2)
  exact yk I r1 ty e fun tk => ⟨.bl b, H, I.tok tk, rfl, q⟩
theorem m4 : ∀ {xs : List V} {us : List Value}, xs.length = us.length → (∀ (i : Nat) (v : V), xs[i]? = some v → ∃ u, us[i]? = some u ∧ RelV v u) → Vals xs us
  | [], [], _, _ => .nil
  | [], _ :: _, h, _ => by simp at h
  | _ :: _, [], h, _ => by simp at h
  | x :: xs, u :: us, h, g => by
    obtain ⟨u', e, r⟩ := g 0 x rfl
    have e' : u = u' := by simpa using e
    subst e'
    exact .cons r (m4 (by simpa using h) fun i v hv => by
      obtain ⟨w, e2, r2⟩ := g (i + 1) v (by simpa using hv)
      exact ⟨w, by simpa using e2, r2⟩)
theorem sF {e : Expr} {te : TE} {p p1 p2 pos : Pos} (hc : X.calm = true) (hg : Gl X "list") (hm : X.mg "list" = none) (Ge : Gl X "range") (Gf : X.mg "range" = none) (he : PE X e te) (hs : starEach [e] X.env = [(false, eval e X.env)] := by rfl) :
    PE X (.Call (.Name "list" p) [.Call (.Name "range" p1) [e] [] p2] [] pos) (fun σ H Q => te σ H fun x H1 => ∃ j : Int, x = .int j ∧ -(2 ^ 24) ≤ j ∧ j ≤ 2 ^ 24 ∧ ∀ l, H1 l = none → Q (.ref l) (upd H1 l (.lst ((List.range j.toNat).map fun i => V.int (i : Nat))))) := by
  refine ⟨?_⟩
  intro pins s σ H Q I h
  refine wpAny_Call_Name_kw (f6 I hg hm (by decide +kernel : bootBuiltins "list" = some (.type "list")) ?_)
  refine PyProof.Rows.callWith_type1 ?_ rfl rfl
  show wpAny _ _ (spliced ((false, eval (.Call (.Name "range" p1) [e] [] p2) X.env) :: [])) _ _ s
  refine Calls.spliced_cons ?_
  refine Call_ (f6 I Ge Gf boot_range (PyProof.Rows.callWith_type1 ?_ hs rfl))
  rw [hs]
  refine Calls.spliced_cons (thn (he pins s σ H _ I h) fun v s1 ⟨x, H1, I1, r1, q1⟩ => Calls.spliced_nil ?_)
  obtain ⟨j, rfl, b1, b2, q⟩ := q1
  obtain ⟨t, rfl⟩ := r1
  refine call_range_1 ?_
  refine Calls.spliced_nil ?_
  refine call_list_range (n := j.toNat) (I1.ok.hd hc) (IsRange.new ..) (small_one (by omega) (by omega) (by omega) (by omega)) (by rw [PyProof.Rows.rangeSize_nat]; simp) (by omega) fun h' tk iq c' hk hS hit => ?_
  have I2 : Inv X pins σ H1 { s1 with heap := s1.heap.push { cls := .type "range", data := .fields #[.int 0 s1.toks, .int j t, .int 1 (s1.toks + 1)] }, toks := s1.toks + 1 + 1 } := I1.kept fun b o e => Heap.get?_push_of_some _ e
  obtain ⟨hsz, g9⟩ := hit
  have rv : Vals ((List.range j.toNat).map fun i => V.int (i : Nat)) iq.toList := by
    refine m4 (by simpa using hsz.symm) fun i v e => ?_
    rw [List.getElem?_map] at e
    cases q2 : (List.range j.toNat)[i]? with
    | none => rw [q2] at e; cases e
    | some k =>
      rw [q2] at e
      have ek : k = i := by
        obtain ⟨_, e3⟩ := List.getElem?_eq_some_iff.mp q2
        simpa using e3.symm
      have hi : i < iq.size := by
        have := (List.getElem?_eq_some_iff.mp q2).1
        rw [List.length_range] at this
        omega
      obtain ⟨t2, e4⟩ := g9 i iq[i] (by simp [hi])
      refine ⟨iq[i], by simp [hi], ?_⟩
      rw [e4]
      have e5 : v = V.int (k : Nat) := (Option.some.inj e).symm
      rw [e5, ek]
      exact ⟨t2, by simp⟩
  have ob : ObjOk X.prog X.w (upd H1 (s1.heap.push { cls := .type "range", data := .fields #[.int 0 s1.toks, .int j t, .int 1 (s1.toks + 1)] }).objs.size (.lst ((List.range j.toNat).map fun i => V.int (i : Nat)))) h' (s1.heap.push { cls := .type "range", data := .fields #[.int 0 s1.toks, .int j t, .int 1 (s1.toks + 1)] }).objs.size (.lst ((List.range j.toNat).map fun i => V.int (i : Nat))) := by
    refine ⟨?_, iq.toList, c', rv, by simpa using hS⟩
    rw [List.length_map, List.length_range]
    exact Nat.le_trans (show j.toNat ≤ 2 ^ 24 by omega) (by decide)
  exact ⟨.ref _, _, I2.laid (t' := tk) hk (Nat.le_refl _) ob, rfl, q _ (I2.hok.fresh (Nat.le_refl _))⟩
end
theorem Gg : bootBuiltins "int" = some (.type "int") := by decide +kernel
theorem Gh : bootBuiltins "str" = some (.type "str") := by decide +kernel
theorem DP : bootBuiltins "bool" = some (.type "bool") := by decide +kernel
theorem gK : bootBuiltins "tuple" = some (.type "tuple") := by decide +kernel
theorem DQ : bootBuiltins "list" = some (.type "list") := by decide +kernel
theorem sG : bootBuiltins "min" = some (.builtin "min") := by decide +kernel
theorem yG : bootBuiltins "max" = some (.builtin "max") := by decide +kernel
theorem Gi : bootBuiltins "abs" = some (.builtin "abs") := by decide +kernel
theorem dj : bootBuiltins "isinstance" = some (.builtin "isinstance") := by decide +kernel
structure Bl (mg : Str → Option Value) : Prop where
  len_ : mg "len" = none
  range_ : mg "range" = none
  min_ : mg "min" = none
  max_ : mg "max" = none
  abs_ : mg "abs" = none
  list_ : mg "list" = none
  tuple_ : mg "tuple" = none
  int_ : mg "int" = none
  str_ : mg "str" = none
  bool_ : mg "bool" = none
  isinstance_ : mg "isinstance" = none
  all_ : mg "all" = none
  set_ : mg "set" = none
  sorted_ : mg "sorted" = none
  zip_ : mg "zip" = none
  enumerate_ : mg "enumerate" = none
  sum_ : mg "sum" = none
  reversed_ : mg "reversed" = none
  divmod_ : mg "divmod" = none
  any_ : mg "any" = none
  ValueError_ : mg "ValueError" = none
structure Df (K : PySem.W.Frag) (mg : Str → Option Value) (x : Str) (st : Stmt) (ps : List Str) (f : Addr) (fd : FuncData) : Prop where
  fn : qD K x x st f fd
  bd : Binds K fd ps []
  mg : mg x = some (.ref f)
structure ve (base : Heap) (fd : FuncData) (c P : Addr) : Prop where
  code : fd.code = .ref c
  hd : PySem.W.CodeHd base c P
section
variable {P : Program} {w : World} {K : PySem.W.Frag} {mg : Str → Option Value} {base : Heap}
theorem qD.M9 {x qual : Str} {st : Stmt} {f : Addr} {fd : FuncData} {N ps : List Str} {k : Nat} {sp : Sp} (F : qD K x qual st f fd) (S : aQ N ps (ai st)) (len : ∀ vs H Q E, sp vs H Q E → vs.length = ps.length)
    (kb : ∀ (A : Around) (outer : List Env) (s : Shared) (H : Hp) (vs : List V) (Q : VK) (E : XK), bL k (A.deeper (envOfC qual (ai st) s.heap.objs.size f fd.code)) → sp vs H Q E →
      ∃ t, fO (fg bt P w K mg base N qual (ai st) f fd.code A outer s H E).kR (bB st) t ∧ t { nx := fun _ H' => Q .ao H', rt := Q } (start N vs) H) : FnOk P w K mg base bt (k + 1) f fd ps sp := by
  obtain ⟨oc, od, kV, doc, pm, an, cw, ct, jw, rfl, lk, dE⟩ := F.ex
  refine wa lk dE S len fun A outer s H vs Q E hr jx => ?_
  obtain ⟨t, h, q⟩ := kb A outer s H vs Q E hr jx
  exact ⟨t, h.kR, q⟩
end
noncomputable def Pu : V → Bool | .int _ => true | _ => false
noncomputable def below (m : Int) : V → Bool | .int i => decide (0 ≤ i) && decide (i < m) | _ => false
structure dU (af : List (List Int)) (w : Nat) : Prop where
  one : 1 ≤ af.length
  nine : af.length ≤ 9
  wid : w = 2 ∨ w = 3
  row : ∀ r ∈ af, r.length = w ∧ ∀ g ∈ r, 0 ≤ g ∧ g < (af.length : Int)
theorem iC {α β : Type} {F : α → β → Prop} : ∀ {xs : List α} {ys : List β} {i : Nat} {y : β}, Paired F xs ys → ys[i]? = some y → ∃ x, xs[i]? = some x ∧ F x y
  | _, _, _, _, .nil, e => by simp at e
  | _, _, 0, _, .cons f _, e => by simp at e; subst e; exact ⟨_, rfl, f⟩
  | _, _, i + 1, y, .cons _ t, e => by
    obtain ⟨x, h1, h2⟩ := iC (i := i) (y := y) t (by simpa using e)
    exact ⟨x, by simpa using h1, h2⟩
noncomputable def CD (tb : List Addr) (H : Hp) : Prop := ∀ p ∈ tb, Tb p H
noncomputable def Jm (H : Hp) (b : Addr) : Prop := ∃ c m : Int, H b = some (.lst [.int c, .int m]) ∧ 0 ≤ c ∧ 0 ≤ m
noncomputable def Runs (J : It) (ys : List V) (H : Hp) : Prop := ∀ i, (i < ys.length → J.go i H ∧ ∀ x H', J.yld i H x H' → H' = H ∧ ys[i]? = some x) ∧ (ys.length ≤ i → J.stop i H)
theorem Bc {K : PySem.W.Frag} {a : Addr} {ys : List V} {H : Hp} (h : cu K H a ys) : Runs (Fs K a) ys H := fun i =>
  ⟨fun hi => ⟨⟨ys, ys[i], h, List.getElem?_eq_getElem hi⟩, fun x H' y => ⟨y.1, y.2 ys h⟩⟩, fun hi => ⟨ys, h, hi⟩⟩
theorem yH {K : PySem.W.Frag} {a : Addr} {ys : List V} {H : Hp} (h : bH K H a ys) : Runs (Fq K a) ys H := fun i =>
  ⟨fun hi => ⟨⟨ys, ys[i], h, List.getElem?_eq_getElem hi⟩, fun x H' y => ⟨y.1, y.2 ys h⟩⟩, fun hi => ⟨ys, h, hi⟩⟩
theorem oB {lo : Int} {n : Nat} {H : Hp} : Runs (xZ lo n) ((List.range n).map fun i => V.int (lo + (i : Nat))) H := fun i => by
  have el : ((List.range n).map fun i => V.int (lo + (i : Nat))).length = n := by simp
  rw [el]
  refine ⟨fun hi => ⟨hi, fun x H' y => ?_⟩, fun hi => hi⟩
  obtain ⟨e1, e2⟩ := y
  refine ⟨e1, ?_⟩
  rw [e2, List.getElem?_map, List.getElem?_range hi]
  rfl
section
variable {X : Cx} {K : PySem.W.Frag}
theorem vf (h : X.K = K) : kX X (Ka K) := h ▸ FY
theorem yI (h : X.K = K) : de X (.builtin "len") (fun xs H Q => ∃ x n, xs = [x] ∧ FK K x H n ∧ Q (.int n) H) := h ▸ AY
theorem rJ (h : X.K = K) : de X (.type "list") (fun xs H Q => ∃ p ys, xs = [.ref p] ∧ (bH K H p ys ∨ cu K H p ys) ∧ ∀ l, H l = none → Q (.ref l) (upd H l (.lst ys))) := h ▸ sm
theorem pM (h : X.K = K) : de X (.type "tuple") (fun xs H Q => ∃ p ys, xs = [.ref p] ∧ ((bH K H p ys ∧ ∀ l, H l = none → Q (.ref l) (upd H l (.tup ys))) ∨ (cu K H p ys ∧ Q (.ref p) H))) := h ▸ rH
theorem sH (h : X.K = K) : de X (.builtin "isinstance") (fun xs H Q => ∃ x T t b, xs = [x, .ty T] ∧ fy K H x t ∧ PySem.W.kitOne K t (.type T) = some b ∧ Q (.bl b) H) := h ▸ uH
theorem Bd {tg l : Expr} {tl : TE} (h : X.K = K) (hl : PE X l tl) : PI X tg l (Cu K tl) := h ▸ DB hl
theorem DR {tg l : Expr} {tl : TE} (h : X.K = K) (hl : PE X l tl) : PI X tg l (Ft K tl) := h ▸ Fu hl
variable {o e : Expr} {es : List Expr} {to : TE} {t : TA} {name : Str} {apos aW : Pos} {T id : String} {r : V → List V → Hp → VK → Prop}
theorem Gj (h : X.K = K) (pa : PlainAttrs T) (slot : Slot T name id) (yp : typeOf (.builtin id) = pure (.type "method_descriptor")) (hm : FR X id r) (ho : PE X o to) (ha : PA X (e :: es) t) (ow : attributeBase o name X.env (eval o X.env) = eval o X.env := by rfl)
    (so : ((backTo aW (starEach (e :: es) X.env)).all (fun x => !x.1) && (backToKw aW (keywordEach [] X.env)).all (fun x => x.1.isSome)
      && decide ((e :: es).length + ([] : List Keyword).length + (if ([] : List Keyword).isEmpty then 0 else 1) < 30)) = true := by rfl)
    (hline : (apos.endLine == aW.line) = true := by rfl) (hs : starEach (e :: es) X.env = (false, eval e X.env) :: starEach es X.env := by rfl) (kY : (backTo aW (starEach es X.env)).any (·.1) = false := by rfl) :
    PE X (.Call (.Attribute o name apos) (e :: es) [] aW) (Kb K T r to t) := h ▸ Jh pa slot yp hm ho ha ow so hline hs kY
end
noncomputable abbrev bY (K : PySem.W.Frag) (x : Str) (st : Stmt) : Prop :=
  ∃ (f : Addr) (oc : Value) (od : Option Addr) (sl : Array (Option Value)) (kV dc pm : Value) (an : Option Addr) (cd ct : Value),
    PySem.W.nsIn K mainGlobals x = some (some (.ref f)) ∧ K.lookup f = some ⟨oc, od, .func (PySem.W.fnOf x x (cK st) (bB st) (ai st) .none kV dc pm an cd ct), sl⟩ ∧ PySem.W.codeIn K cd x = true ∧ PySem.W.keepIn K (.ref f) = true
theorem aZ {K : PySem.W.Frag} {x : Str} {st : Stmt} {f : Addr} {oc : Value} {od : Option Addr} {sl : Array (Option Value)} {kV dc pm : Value} {an : Option Addr} {cd ct : Value} (a : PySem.W.nsIn K mainGlobals x = some (some (.ref f)))
    (l : K.lookup f = some ⟨oc, od, .func (PySem.W.fnOf x x (cK st) (bB st) (ai st) .none kV dc pm an cd ct), sl⟩) (c : PySem.W.codeIn K cd x = true) (k : PySem.W.keepIn K (.ref f) = true) : bY K x st := ⟨f, oc, od, sl, kV, dc, pm, an, cd, ct, a, l, c, k⟩
theorem Be {K : PySem.W.Frag} {x : Str} {z : Str} {tk : Tok} (a : PySem.W.nsIn K mainGlobals x = some (some (.str z tk))) : ∃ tk, PySem.W.nsIn K mainGlobals x = some (some (.str z tk)) := ⟨tk, a⟩
theorem Bf {K : PySem.W.Frag} {x : Str} {z : Int} {tk : Tok} (a : PySem.W.nsIn K mainGlobals x = some (some (.int z tk))) : ∃ tk, PySem.W.nsIn K mainGlobals x = some (some (.int z tk)) := ⟨tk, a⟩
section
variable {K : PySem.W.Frag} {mg : Str → Option Value} {h base : Heap}
theorem bY.df {x : Str} {st : Stmt} (d : bY K x st) (X : K.In h) (G : h.Ns mainGlobals mg) (ps : List Str)
    (hb : ∀ (kV doc pm : Value) (an : Option Addr) (cw ct : Value) (us : List Value), us.length = ps.length → bindArgs (PySem.W.fnOf x x (cK st) (bB st) (ai st) .none kV doc pm an cw ct) ⟨us, []⟩ = pure (ps.zip us)) :
    ∃ f fd, Df K mg x st ps f fd := by
  obtain ⟨f, oc, od, sl, kV, dc, pm, an, cd, ct, a, l, c, k⟩ := d
  have F := F5 (st := st) l c k
  exact ⟨f, _, F, F.binds hb, PySem.W.mg_of X G a⟩
theorem oC {x : Str} {st : Stmt} {ps : List Str} {f p : Addr} {fd : FuncData} (D : Df K mg x st ps f fd) (X : K.In h)
    (t : ∃ f o fd c, mg x = some (.ref f) ∧ h.get? f = some o ∧ o.data = .func fd ∧ fd.code = .ref c ∧ PySem.W.CodeHd h c p) (tr : ∀ c p, PySem.W.CodeHd h c p → PySem.W.CodeHd base c p) : ∃ c, ve base fd c p := by
  obtain ⟨f', o, CF, c, e1, e2, e3, e4, e5⟩ := t
  obtain ⟨oc, od, kV, doc, pm, an, cw, ct, jw, rfl, lk, dE⟩ := D.fn.ex
  have e := D.mg.symm.trans e1
  cases e
  have q := (X _ _ lk).symm.trans e2
  cases q
  cases e3
  exact ⟨c, e4, tr _ _ e5⟩
theorem Df.bind1 {x y : Str} {st : Stmt} {f : Addr} {fd : FuncData} (D : Df K mg x st [y] f fd) (s : Shared) (v : Value)
    (hb : ∀ (kV doc pm : Value) (an : Option Addr) (cw ct : Value) (u : Value), bindArgs (PySem.W.fnOf x x (cK st) (bB st) (ai st) .none kV doc pm an cw ct) ⟨[u], []⟩ = pure [(y, u)]) : BindsTo s fd ⟨[v], []⟩ [(y, v)] := by
  obtain ⟨oc, od, kV, doc, pm, an, cw, ct, jw, rfl, lk, dE⟩ := D.fn.ex
  exact .of_eq (hb kV doc pm an cw ct v)
theorem gU {α β : Type} {F : α → β → Prop} {a : α} {r : List α} {t : List β} (h : Paired F (a :: r) t) : ∃ b t', t = b :: t' ∧ F a b ∧ Paired F r t' := by
  cases h with
  | cons x y => exact ⟨_, _, rfl, x, y⟩
theorem DS {q : Program} {nms : List Str} (h : (nms.all fun y => (recsOf q).any fun r => decide (r.name = y)) = true) : ∀ y ∈ nms, ∃ r ∈ recsOf q, r.name = y := fun y hy => by
  have := List.all_eq_true.mp h y hy
  obtain ⟨r, hr, e⟩ := List.any_eq_true.mp this
  exact ⟨r, hr, of_decide_eq_true e⟩
end
noncomputable def jW (xs : Array Nat) : Prop := xs.toList.Pairwise (· < ·)
theorem oE {xs : Array Nat} (h : jW xs) {i j : Nat} (Kk : i < j) (hj : j < xs.size) : xs[i] < xs[j] := by
  have := List.pairwise_iff_getElem.mp h i j (by simpa using Nat.lt_trans Kk hj) (by simpa using hj) Kk
  simpa using this
theorem below_go {xs : Array Nat} {v : Nat} (h : jW xs) : ∀ (fuel lo hi : Nat), hi - lo ≤ fuel → lo ≤ hi → hi ≤ xs.size → (∀ i (d6 : i < xs.size), i < lo → xs[i] < v) → (∀ i (d6 : i < xs.size), hi ≤ i → v ≤ xs[i]) →
    SetTable.below.go xs v fuel lo hi ≤ xs.size ∧ (∀ i (d6 : i < xs.size), i < SetTable.below.go xs v fuel lo hi → xs[i] < v) ∧ ∀ i (d6 : i < xs.size), SetTable.below.go xs v fuel lo hi ≤ i → v ≤ xs[i]
  | 0, lo, hi, hf, h1, h2, ha, hb => by
    have e : lo = hi := by omega
    subst e
    exact ⟨h2, ha, hb⟩
  | fuel + 1, lo, hi, hf, h1, h2, ha, hb => by
    unfold SetTable.below.go
    by_cases aU : lo < hi
    · rw [if_pos aU]
      dsimp only
      have hm : (lo + hi) / 2 < xs.size := by omega
      have e : xs.getD ((lo + hi) / 2) v = xs[(lo + hi) / 2] := by simp [Array.getD, hm]
      rw [e]
      by_cases hc : xs[(lo + hi) / 2] < v
      · rw [if_pos hc]
        refine below_go h fuel _ _ (by omega) (by omega) h2 (fun i d6 hl => ?_) hb
        by_cases ei : i = (lo + hi) / 2
        · subst ei; exact hc
        · exact Nat.lt_trans (oE h (show i < (lo + hi) / 2 by omega) hm) hc
      · rw [if_neg hc]
        refine below_go h fuel _ _ (by omega) (by omega) (by omega) ha (fun i d6 hl => ?_)
        by_cases ei : i = (lo + hi) / 2
        · subst ei; exact Nat.le_of_not_lt hc
        · exact Nat.le_trans (Nat.le_of_not_lt hc) (Nat.le_of_lt (oE h (show (lo + hi) / 2 < i by omega) d6))
    · rw [if_neg aU]
      have e : lo = hi := by omega
      subst e
      exact ⟨h2, ha, hb⟩
theorem nG {xs : Array Nat} (v : Nat) (h : jW xs) : SetTable.below xs v ≤ xs.size ∧ (∀ i (d6 : i < xs.size), i < SetTable.below xs v → xs[i] < v) ∧ ∀ i (d6 : i < xs.size), SetTable.below xs v ≤ i → v ≤ xs[i] :=
  below_go h _ _ _ (by omega) (Nat.zero_le _) (Nat.le_refl _) (fun i _ z => absurd z (Nat.not_lt_zero _)) (fun i z z' => absurd z (Nat.not_lt.mpr z'))
theorem wo {xs : Array Nat} {v : Nat} (h : jW xs) (hn : xs[SetTable.below xs v]? ≠ some v) : jW (SetTable.insertAt xs (SetTable.below xs v) v) := by
  obtain ⟨b0, b1, b2⟩ := nG v h
  generalize SetTable.below xs v = p at *
  unfold jW SetTable.insertAt
  have e : ((xs.extract 0 p).push v ++ xs.extract p xs.size).toList = xs.toList.take p ++ [v] ++ xs.toList.drop p := by
    simp
    exact List.take_of_length_le (by simp)
  rw [e]
  have hl : ∀ y ∈ xs.toList.take p, y < v := fun y hy => by
    obtain ⟨i, hi, rfl⟩ := List.mem_take_iff_getElem.mp hy
    have m5 : i < p ∧ i < xs.size := by simpa [Nat.lt_min] using hi
    simpa using b1 i m5.2 m5.1
  have hr : ∀ y ∈ xs.toList.drop p, v < y := fun y hy => by
    obtain ⟨i, hi, rfl⟩ := List.mem_drop_iff_getElem.mp hy
    have m5 : p + i < xs.size := by rw [Nat.add_comm]; simpa using hi
    have h1 : v ≤ xs[p + i] := b2 (p + i) m5 (Nat.le_add_right _ _)
    have h2 : v ≠ xs[p + i] := fun z => by
      by_cases Nb : i = 0
      · subst Nb
        exact hn (by rw [Nat.add_zero] at m5; rw [Array.getElem?_eq_getElem m5]; simpa using z.symm)
      · have q := oE h (show p < p + i by omega) m5
        have q2 := b2 p (by omega) (Nat.le_refl _)
        omega
    have : xs.toList[p + i]'(by simpa using m5) = xs[p + i] := by simp
    rw [this]
    omega
  have hp := List.take_append_drop p xs.toList
  have Nc : (xs.toList.take p ++ xs.toList.drop p).Pairwise (· < ·) := by rw [hp]; exact h
  obtain ⟨q1, q2, q3⟩ := List.pairwise_append.mp Nc
  refine List.pairwise_append.mpr ⟨List.pairwise_append.mpr ⟨q1, List.pairwise_singleton _ _, fun a ha b hb => ?_⟩, q2, fun a ha b hb => ?_⟩
  · rw [List.mem_singleton] at hb; subst hb; exact hl a ha
  · rcases List.mem_append.mp ha with ha | ha
    · exact q3 a ha b hb
    · rw [List.mem_singleton] at ha; subst ha; exact hr b hb
structure bP (w : World) (t : SetTable) : Prop where
  dum : t.dummies = #[]
  ris : jW t.place
  led : t.led = !w.params.followText "set-order"
theorem yJ (n : Nat) : jW (Array.range n) := by
  unfold jW
  rw [Array.toList_range]
  exact List.pairwise_lt_range
theorem bP.standIn {w : World} {t : SetTable} (h : bP w t) (n : Nat) : bP w (t.standIn n) := ⟨rfl, yJ n, h.led⟩
theorem bP.orStandIn {w : World} {t : SetTable} (h : bP w t) (n : Nat) : bP w (t.orStandIn n) := by
  unfold SetTable.orStandIn
  split
  · exact h
  · exact h.standIn n
theorem vg (j : Nat) : SetTable.has #[] j = false := by
  unfold SetTable.has
  have : (#[] : Array Nat)[SetTable.below #[] j]? = none := by simp
  rw [this]
  rfl
theorem sI {w : World} {t : SetTable} (h : bP w t) {hashAt : Nat → Int} {hh : Int} {j : Nat} {d : Option Nat} : ∀ (fuel : Nat) (p : SetTable.Probe), p.dummy = none → SetTable.probe.go t hashAt hh fuel p = some (.empty j d) → t.slot j = .empty ∧ d = none
  | 0, p, _, e => by simp [SetTable.probe.go] at e
  | fuel + 1, p, hp, e => by
    unfold SetTable.probe.go at e
    have LV : ∀ p : SetTable.Probe, (t.advance p).dummy = p.dummy := fun p => by
      unfold SetTable.advance
      split <;> rfl
    cases hs : t.slot p.j with
    | empty =>
      rw [hs] at e
      have e' := Option.some.inj e
      injection e' with e1 e2
      exact ⟨by rw [← e1]; exact hs, by rw [← e2]; exact hp⟩
    | dummy =>
      exfalso
      unfold SetTable.slot at hs
      dsimp only at hs
      rw [h.dum, vg] at hs
      split at hs <;> simp at hs
    | live i =>
      rw [hs] at e
      dsimp only at e
      split at e
      · simp at e
      · exact sI h fuel _ (by rw [LV]; exact hp) e
theorem wq {w : World} {t : SetTable} (h : bP w t) {j : Nat} (e : t.slot j = .empty) : t.place[SetTable.below t.place j]? ≠ some j := fun z => by
  unfold SetTable.slot at e
  dsimp only at e
  rw [z] at e
  simp at e
theorem bP.put {w : World} {t : SetTable} (h : bP w t) {j : Nat} (e : t.slot j = .empty) : bP w (t.put j).1 := by
  unfold SetTable.put
  refine ⟨?_, wo h.ris (wq h e), h.led⟩
  show (if SetTable.has t.dummies j then _ else t.dummies) = #[]
  rw [h.dum, vg]
  rfl
theorem bP.layNew {w : World} {t : SetTable} (h : bP w t) (es : Array (Int × Value)) (hh : Int) (x : Value) : bP w (layNew t es hh x).2.1 := by
  unfold PySem.layNew
  split
  · rename_i slot nH hf
    unfold SetTable.freeSlot at hf
    refine (bP.put h ?_).orStandIn _
    split at hf
    · rename_i j dummy hp
      obtain ⟨e1, e2⟩ := sI h _ _ rfl hp
      subst e2
      have := Option.some.inj hf
      injection this with z1 _
      rw [← z1]
      exact e1
    · cases hf
  · exact h.standIn _
theorem Bg {α : Type} (f : Nat → Option α) (n : Nat) : jW (((List.range n).filterMap fun j => (f j).map (j, ·)).map (·.1)).toArray := by
  unfold jW
  have e : (((List.range n).filterMap fun j => (f j).map (j, ·)).map (·.1)).toArray.toList = (List.range n).filter fun j => (f j).isSome := by
    rw [List.toList_toArray]
    induction List.range n with
    | nil => rfl
    | cons a l ih =>
      cases hf : f a with
      | none => simp [List.filterMap_cons, hf, ih]
      | some b => simp [List.filterMap_cons, hf, ih]
  rw [e]
  exact List.Pairwise.filter _ List.pairwise_lt_range
theorem bP.Jn {w : World} {t : SetTable} (h : bP w t) (es : Array (Int × Value)) (wanted : Nat) : bP w (relayAll t es wanted).2.1 := by
  unfold relayAll
  split
  · rename_i t' order hr
    dsimp only
    split
    · unfold SetTable.relaid SetTable.laid at hr
      simp only [Option.bind_eq_bind, Option.bind_eq_some_iff, Option.pure_def] at hr
      obtain ⟨owner, _, hr⟩ := hr
      have := Option.some.inj hr
      injection this with z1 _
      subst z1
      exact ⟨rfl, Bg (fun j => owner.getD j none) _, h.led⟩
    · exact h.standIn _
  · exact h.standIn _
theorem bP.Bh {w : World} {t : SetTable} (h : bP w t) (b : Bool) : bP w (if b = true then t else { t with plain := false }) := by
  split
  · exact h
  · exact ⟨h.dum, h.ris, h.led⟩
noncomputable def du (e : Int × Value) : Int := match e.2 with | .int i _ => i | _ => 0
noncomputable def bM (P : Program) (w : World) (h : Heap) (a : Addr) (ns : List Int) : Prop :=
  ∃ o es ep t, h.get? a = some o ∧ o.ExactSet ∧ o.data = .set es ep t ∧ ElemsOf (intKind P w) es.toList ∧ (es.toList.map du).Perm ns ∧ ns.Nodup ∧ es.size < scanBound ∧ t.fits es.size = true ∧ bP w t
theorem bM.bT {P : Program} {w : World} {h h' : Heap} {a : Addr} {ns : List Int} (x : bM P w h a ns) (k : ∀ o, h.get? a = some o → h'.get? a = some o) : bM P w h' a ns :=
  let ⟨o, es, ep, t, e, r⟩ := x; ⟨o, es, ep, t, k o e, r⟩
noncomputable def fA (P : Program) (w : World) (a : Addr) (ns : List Int) : HO := .ext fun h => bM P w h a ns
noncomputable def cE (ns : List Int) (m : Int) : List Int := if m ∈ ns then ns else ns ++ [m]
theorem uI {P : Program} {w : World} {es : List (Int × Value)} (h : ElemsOf (intKind P w) es) {k : Int} : (∃ e ∈ es, (intKind P w).is k e.2 = true) ↔ k ∈ es.map du := by
  constructor
  · rintro ⟨e, he, hk⟩
    obtain ⟨t, e2⟩ := Value.isInt_shape (k := k) (v := e.2) hk
    exact List.mem_map.mpr ⟨e, he, by unfold du; rw [e2]⟩
  · intro hm
    obtain ⟨e, he, q⟩ := List.mem_map.mp hm
    obtain ⟨⟨k', qH, _⟩, _⟩ := h e he
    obtain ⟨t, e2⟩ := Value.isInt_shape (k := k') (v := e.2) qH
    have : k' = k := by rw [← q]; unfold du; rw [e2]
    exact ⟨e, he, this ▸ qH⟩
section
variable {P : Program} {w : World} {A : Around} {E : Value → Shared → Prop} {s : Shared}
theorem oF {h : Heap} {a : Addr} {o : Obj} {es : Array (Int × Value)} {ep : Nat} {t : SetTable} (ho : h.get? a = some o) (hex : o.ExactSet) (hd : o.data = .set es ep t)
    {g5 : Array (Int × Value)} {t' : SetTable} {ns : List Int} (jy : ElemsOf (intKind P w) g5.toList) (hp : (g5.toList.map du).Perm ns) (hn : ns.Nodup) (hb : g5.size < scanBound) (hf : t'.fits g5.size = true) (ht : bP w t') :
    (h.update a (Obj.putSet g5 t')).get? a = some { o with data := .set g5 (ep + 1) t' } ∧ bM P w (h.update a (Obj.putSet g5 t')) a ns := by
  have hg : (h.update a (Obj.putSet g5 t')).get? a = some { o with data := .set g5 (ep + 1) t' } := by
    have := Heap.get?_update_self (Obj.putSet g5 t') ho (by rw [putSet_of g5 t' hd]; rfl)
    rw [putSet_of g5 t' hd] at this; exact this
  exact ⟨hg, _, g5, ep + 1, t', hg, hex, rfl, jy, hp, hn, hb, hf, ht⟩
theorem sJ {g : Bool → Sem Unit} (hg : ∀ (b : Bool) (az : Shared) (Q' : Unit → Shared → Prop), Q' () az → wpAny (model P w) A (g b) Q' E az)
    {a : Addr} {o : Obj} {es : Array (Int × Value)} {ep : Nat} {t : SetTable} (ho : s.heap.get? a = some o) (hex : o.ExactSet) (hd : o.data = .set es ep t)
    {d7 : Array (Int × Value)} {t2 : SetTable} {ns : List Int} (sL : ElemsOf (intKind P w) d7.toList) (yK : (d7.toList.map du).Perm ns) (hn : ns.Nodup)
    (oG : d7.size < scanBound) (Nf : t2.fits d7.size = true) (Km : bP w t2) {nH : Bool} {R : Option Bool → Shared → Prop}
    (h : ∀ h', Heap.SameBut a s.heap h' → bM P w h' a ns → R (some true) { s with heap := h' }) :
    wpAny (model P w) A (do
        storeSet a d7 t2
        if (!nH && t2.tooFull) = true then do
            g (relayAll t2 d7 (SetTable.grown d7.size)).2.2
            storeSet a (relayAll t2 d7 (SetTable.grown d7.size)).1 (relayAll t2 d7 (SetTable.grown d7.size)).2.1
            pure (some true)
          else pure (some true)) R E s := by
  refine wpAny_bind (wpAny_storeSet_of ho hd ?_ (fits_of_scanBound oG))
  obtain ⟨Kn, yL⟩ := oF (P := P) (w := w) ho hex hd sL yK hn oG Nf Km
  have Gk := Heap.SameBut.update s.heap a (Obj.putSet d7 t2)
  split
  · have hp := relayAll_perm t2 d7 (SetTable.grown d7.size)
    have yx := relayAll_fits t2 d7 (SetTable.grown d7.size)
    have k8 := Km.Jn d7 (SetTable.grown d7.size)
    generalize relayAll t2 d7 (SetTable.grown d7.size) = Rl at hp yx k8 ⊢
    obtain ⟨Ko, t3, O5⟩ := Rl
    dsimp only at hp yx k8 ⊢
    have hsz : Ko.size = d7.size := by rw [← Array.length_toList, hp.length_eq, Array.length_toList]
    have vh : Ko.size < scanBound := by rw [hsz]; exact oG
    refine wpAny_bind (hg _ _ _ (wpAny_bind (wpAny_storeSet_of Kn rfl ?_ (fits_of_scanBound vh))))
    obtain ⟨_, Gm⟩ := oF (P := P) (w := w) Kn hex rfl (sL.perm hp) ((hp.map du).trans yK) hn vh yx k8
    exact wpAny_pure (h _ (Gk.trans (Heap.SameBut.update _ a _)) Gm)
  · exact wpAny_pure (h _ Gk yL)
theorem qJ {a : Addr} {ns : List Int} {m : Int} {tk : Tok} {Q : Bool → Shared → Prop} (hS : bM P w s.heap a ns) (kf : ns.length + 1 < scanBound)
    (h : ∀ h', Heap.SameBut a s.heap h' → bM P w h' a (cE ns m) → Q (decide (m ∉ ns)) { s with heap := h', toks := s.toks + 1 }) : wpAny (model P w) A (setAdd a (.int m tk)) Q E s := by
  unfold setAdd
  refine wpAny_holding (wpAny_bind ((intKind P w).pyHash (k := m) (intKind_is _ _ _ _) ?_))
  have v8 : (intKind P w).is m (.int m tk) = true := intKind_is _ _ _ _
  obtain ⟨o, es, ep, t, ho, hex, hd, jy, hp, hn, hb, hf, ht⟩ := hS
  have wt : ∀ k, (∃ e ∈ es.toList, (intKind P w).is k e.2 = true) ↔ k ∈ ns := fun k => (uI jy).trans hp.mem_iff
  have hlen : es.size = ns.length := by rw [← Array.length_toList, ← hp.length_eq, List.length_map]
  unfold setAddHashed setAddHashedIn
  refine wpAny_holding (wpAny_bind (wpAny_setState_of (s := { s with toks := s.toks + 1 }) ho hd hf ?_))
  dsimp only
  rw [byScan_of (x := .int m tk) rfl hb jy]
  simp only [↓reduceIte]
  unfold setAddByScan
  refine wpAny_bind (wpAny_bind (wpAny_rule (wpAny_bind (wpAny_setScan_of v8 ho hd hf jy ?_))))
  cases hr : List.findIdx? (fun e => (intKind P w).is m e.2) es.toList with
  | some j =>
    dsimp only
    obtain ⟨hj, Ng, _⟩ := List.findIdx?_eq_some_iff_getElem.mp hr
    have hm : m ∈ ns := (wt m).mp ⟨es.toList[j], List.getElem_mem hj, Ng⟩
    have := h s.heap (Heap.SameBut.refl a s.heap) (by unfold cE; rw [if_pos hm]; exact ⟨o, es, ep, t, ho, hex, hd, jy, hp, hn, hb, hf, ht⟩)
    rw [decide_eq_false (fun z => z hm)] at this
    exact wpAny_pure (wpAny_pure this)
  | none =>
    dsimp only
    have hm : m ∉ ns := fun z => by
      obtain ⟨e, he, q⟩ := (wt m).mpr z
      have := List.findIdx?_eq_none_iff.mp hr e he
      rw [q] at this; cases this
    have mD := layNew_perm t es ((intKind P w).hash m) (.int m tk)
    have oH := layNew_fits t es ((intKind P w).hash m) (.int m tk)
    have iZ := ht.layNew es ((intKind P w).hash m) (.int m tk)
    generalize layNew t es ((intKind P w).hash m) (.int m tk) = L at mD oH iZ ⊢
    obtain ⟨d7, t1, nH, Pb⟩ := L
    dsimp only at mD oH iZ ⊢
    rw [Array.toList_push] at mD
    have sL : ElemsOf (intKind P w) d7.toList := (jy.push v8 rfl).perm mD
    have Gp : cE ns m = ns ++ [m] := by unfold cE; rw [if_neg hm]
    have yK : (d7.toList.map du).Perm (cE ns m) := by
      rw [Gp]
      refine (mD.map du).trans ?_
      rw [List.map_append]
      exact List.Perm.append hp (.refl _)
    have Kp : (cE ns m).Nodup := by
      rw [Gp]
      exact List.nodup_append.mpr ⟨hn, by simp, fun a ha b hb => by rw [List.mem_singleton] at hb; rw [hb]; exact fun z => hm (z ▸ ha)⟩
    have oG : d7.size < scanBound := by rw [← Array.length_toList, mD.length_eq, List.length_append, Array.length_toList, hlen]; simpa using kf
    have Gq : ∀ (b : Bool) (az : Shared) (Q' : Unit → Shared → Prop), Q' () az → wpAny (model P w) A (match b with | true => rule "set.scan.the-table-gave-way" | false => pure ()) Q' E az :=
      fun b az Q' hq => by cases b <;> first | exact wpAny_pure hq | exact wpAny_rule hq
    have Gr : ∀ h', Heap.SameBut a s.heap h' → bM P w h' a (cE ns m) → Q true { s with heap := h', toks := s.toks + 1 } := by
      intro h' gm i5
      have := h h' gm i5
      rw [decide_eq_true hm] at this
      exact this
    refine wpAny_bind (Gq _ _ _ ?_)
    split
    · refine wpAny_bind ?_
      rw [hashByValue_scannable 8 (x := .int m tk) rfl]
      refine wpAny_pure (sJ (P := P) (w := w) (s := { s with toks := s.toks + 1 }) Gq ho hex hd sL yK Kp oG ?_ (iZ.Bh _) fun h' gm i5 => wpAny_pure (Gr h' gm i5))
      split
      · exact oH
      · exact SetTable.fits_plain_off oH
    · refine wpAny_bind (wpAny_pure ?_)
      simp only [↓reduceIte]
      exact sJ (P := P) (w := w) (s := { s with toks := s.toks + 1 }) Gq ho hex hd sL yK Kp oG oH iZ fun h' gm i5 => wpAny_pure (Gr h' gm i5)
theorem wu {ns : List Int} (h : ns.Nodup) (m : Int) : (cE ns m).Nodup := by
  unfold cE
  split
  · exact h
  · rename_i hm
    exact List.nodup_append.mpr ⟨h, by simp, fun a ha b hb => by rw [List.mem_singleton] at hb; rw [hb]; exact fun z => hm (z ▸ ha)⟩
theorem Bi {ns : List Int} {m k : Int} : k ∈ cE ns m ↔ k ∈ ns ∨ k = m := by
  unfold cE
  split
  · rename_i hm
    exact ⟨.inl, fun h => h.elim id fun e => e ▸ hm⟩
  · simp
theorem sM {ns : List Int} {m : Int} : (cE ns m).length ≤ ns.length + 1 := by
  unfold cE
  split
  · omega
  · simp
end
noncomputable def cR (ns : List Int) : List Int := ns.foldl cE []
theorem yM (ns : List Int) (m : Int) : cR (ns ++ [m]) = cE (cR ns) m := by
  unfold cR
  rw [List.foldl_append]
  rfl
theorem wx (ns : List Int) : (cR ns).Nodup := by
  unfold cR
  have : ∀ (l acc : List Int), acc.Nodup → (l.foldl cE acc).Nodup := fun l => by
    induction l with
    | nil => exact fun acc h => h
    | cons a l ih => exact fun acc h => ih _ (wu h a)
  exact this ns [] .nil
theorem Bj {ns : List Int} {k : Int} : k ∈ cR ns ↔ k ∈ ns := by
  unfold cR
  have : ∀ (l acc : List Int), k ∈ l.foldl cE acc ↔ k ∈ acc ∨ k ∈ l := fun l => by
    induction l with
    | nil => intro acc; simp
    | cons a l ih =>
      intro acc
      rw [List.foldl_cons, ih, Bi, List.mem_cons]
      constructor
      · rintro ((h | h) | h)
        · exact .inl h
        · exact .inr (.inl h)
        · exact .inr (.inr h)
      · rintro (h | h | h)
        · exact .inl (.inl h)
        · exact .inl (.inr h)
        · exact .inr h
  rw [this]
  simp
theorem nI (ns : List Int) : (cR ns).length ≤ ns.length := by
  unfold cR
  have : ∀ (l acc : List Int), (l.foldl cE acc).length ≤ acc.length + l.length := fun l => by
    induction l with
    | nil => intro acc; simp
    | cons a l ih =>
      intro acc
      rw [List.foldl_cons, List.length_cons]
      have h1 := ih (cE acc a)
      have h2 := @sM acc a
      omega
  simpa using this ns []
section
variable {P : Program} {w : World} {A : Around} {R : Result → Shared → Prop} {I : Addr} {fp wr : List Addr} {G : Array GenState → Array GenState → Prop} {n : Nat} {St : Nat → Shared → Prop}
theorem Bk {vs : List Int} {Pv : Nat → Value → Prop} (W : WalksS P w A.in1 I fp wr G vs.length Pv St) (S : Addr) (sN : S ∉ fp) (Bm : ∀ (i : Nat) (v : Value), Pv i v → ∃ m t, vs[i]? = some m ∧ v = .int m t) (hb : vs.length + 1 < scanBound) :
    ∀ (k i : Nat) (s : Shared), vs.length - i = k → i ≤ vs.length → St i s → bM P w s.heap S (cR (vs.take i)) →
      (∀ s', Moved (S :: wr) G s s' → bM P w s'.heap S (cR vs) → R (.ok (.ret .none)) s') →
      codeAny (model P w) A (.builtin "set.update.loop" ⟨[.ref S, .ref I], []⟩) R s := by
  have Kq : S ∉ wr := fun h => sN (W.sub _ h)
  have sO : ∀ b ∈ wr, b ∈ S :: wr := fun b hb => List.mem_cons_of_mem _ hb
  intro k
  induction k with
  | zero =>
    intro i s hk hi mW hS hR
    have qK : i = vs.length := by omega
    subst qK
    refine codeAny_builtin F.entry_set_update_loop ?_
    rw [Around.under_plainId F.plain_set_update_loop _]
    show wpAny _ A.in1 (pyNext (.ref I) >>= _) _ _ s
    refine wpAny_bind (W.done s _ _ mW fun s' hm => ?_)
    rw [List.take_length] at hS
    exact wpAny_pure (hR s' (hm.mono sO) (hS.bT fun o e => hm.heap S _ Kq e))
  | succ k ih =>
    intro i s hk hi mW hS hR
    have aU : i < vs.length := by omega
    refine codeAny_builtin F.entry_set_update_loop ?_
    rw [Around.under_plainId F.plain_set_update_loop _]
    show wpAny _ A.in1 (pyNext (.ref I) >>= _) _ _ s
    refine wpAny_bind (W.item i s _ _ aU mW fun v s' hP LW hm => ?_)
    obtain ⟨m, t, jX, rfl⟩ := Bm i v hP
    have i5 : bM P w s'.heap S (cR (vs.take i)) := hS.bT fun o e => hm.heap S _ Kq e
    show wpAny _ A.in1 (holding [Value.int m t] (setAdd S (.int m t)) >>= _) _ _ s'
    have kf : (cR (vs.take i)).length + 1 < scanBound := by
      have h1 := nI (vs.take i)
      rw [List.length_take] at h1
      omega
    refine wpAny_bind (wpAny_holding (qJ i5 kf fun h' gm Gm => ?_))
    have Nh : bM P w h' S (cR (vs.take (i + 1))) := by
      rw [List.take_add_one, jX]
      show bM P w h' S (cR (vs.take i ++ [m]))
      rw [yM]
      exact Gm
    refine wpAny_pure ⟨plainId_quiet F.plain_set_update_loop _, ih (i + 1) _ (by omega) aU (W.frame _ s' _ _ LW (Nat.le_succ _) fun b hb o e => ?_) Nh fun cf LX LY => ?_⟩
    · rw [gm.2 b (fun h : b = S => sN (by rw [← h]; exact hb))]; exact e
    · refine hR cf (Moved.trans W.gtrans ((hm.mono sO).then_heap (Nat.le_succ _) fun b o hb e => ?_) LX) LY
      rw [gm.2 b (fun h : b = S => hb (by rw [h]; exact List.mem_cons_self))]; exact e
end
theorem sub_tuple_set : isSubtype (.type "tuple") (.type "set") = pure false := by rw [isSubtype_type]; kernel_rfl
theorem pN : isSubtype (.type "tuple") (.type "frozenset") = pure false := by rw [isSubtype_type]; kernel_rfl
section
variable {P : Program} {w : World} {A : Around} {E : Value → Shared → Prop} {s : Shared}
noncomputable abbrev fB (w : World) : Obj := { cls := .type "set", dict := none, data := .set #[] 0 (.fresh 0 0 (!w.params.followText "set-order")) }
theorem vi {h : Heap} : bM P w (h.push (fB w)) h.objs.size [] := ⟨_, #[], 0, _, Heap.get?_push_size _ rfl, ⟨rfl, rfl, rfl⟩, rfl, fun e he => by simp at he, by simp, by simp, by decide, by rfl, rfl, List.Pairwise.nil, rfl⟩
theorem Bn (a : Value) {Q₁ : Value → Shared → Prop} (h : Q₁ (.ref s.heap.objs.size) { s with heap := s.heap.push (fB w) }) :
    codeAny (model P w) A (.call (.builtin "set.__new__") ⟨[.type "set", a], []⟩) (wants Q₁ E) s := by
  refine codeAny_of_tree ?_
  show wpAny _ A.in1 (do checkBuiltinCall "set.__new__" ⟨[.type "set", a], []⟩; again (.builtin "set.__new__" ⟨[.type "set", a], []⟩)) _ _ s
  refine wpAny_bind (wpAny_of_eq (F.newCall_set_1 a) (wpAny_pure ⟨plainId_quiet F.plain_set_new _, codeAny_builtin F.entry_set_new ?_⟩))
  rw [Around.under_plainId F.plain_set_new _]
  unfold Builtin.«set.__new__» Builtin.Frozenset.newClass
  have sO := sub_set_self
  obtain ⟨hp, g, d, tk, os⟩ := s
  dsimp only
  wp_walk
  refine wpAny_askSetting (wpAny_pure ?_)
  dsimp only
  simp only [newObj]
  refine wpAny_bind (wpAny_alloc (wpAny_pure ?_))
  exact wpAny_pure h
theorem bM.typeIs {h : Heap} {a : Addr} {ns : List Int} {s : Shared} (x : bM P w s.heap a ns) : s.TypeIs (.ref a) "set" := let ⟨o, _, _, _, ho, hex, _⟩ := x; ⟨o, ho, hex.1⟩
theorem la {T : String} {l : Addr} {itob : Obj} {vs : List Int} {Pv : Nat → Value → Prop} {St : Addr → Nat → Heap → Prop} {Q : Value → Shared → Prop} (hh : A.handled = none)
    (hl : ∃ o, s.heap.get? l = some o) (hT : ∀ s1 : Shared, (∀ o, s.heap.get? l = some o → s1.heap.get? l = some o) → s1.TypeIs (.ref l) T) (h1 : isSubtype (.type T) (.type "set") = pure false) (h2 : isSubtype (.type T) (.type "frozenset") = pure false) (h3 : (Value.type T == Value.type "dict") = false)
    (hit : ∀ (A' : Around) (s1 : Shared) (Q' : Value → Shared → Prop) (E' : Value → Shared → Prop), (∀ o, s.heap.get? l = some o → s1.heap.get? l = some o) → Q' (.ref s1.heap.objs.size) { s1 with heap := s1.heap.push itob } → wpAny (model P w) A' (pyIter (.ref l)) Q' E' s1)
    (hW : ∀ (A' : Around) (I : Addr), A'.handled = none → l ≠ I → Walks P w A' I [I, l] [I] vs.length Pv (St I)) (Ni : ∀ h1 : Heap, (∀ o, s.heap.get? l = some o → h1.get? l = some o) → St h1.objs.size 0 (h1.push itob))
    (Bm : ∀ (i : Nat) (v : Value), Pv i v → ∃ m t, vs[i]? = some m ∧ v = .int m t) (hb : vs.length + 1 < scanBound)
    (h : ∀ (h' : Heap) (tk : Nat), bM P w h' s.heap.objs.size (cR vs) → (∀ b o, s.heap.get? b = some o → h'.get? b = some o) → Q (.ref s.heap.objs.size) { s with heap := h', toks := tk }) :
    wpAny (model P w) A (call (.type "set") [.ref l]) Q E s := by
  obtain ⟨c, tl, Pg⟩ := F.called_set.mro
  have O6 := F.called_set.made
  have sO := F.called_set.sub
  refine wpAny_call (codeAny_of_tree ?_)
  show wpAny _ _ (callAny (.type "set") _) _ _ _
  refine wpAny_pure ⟨Code.quiet_builtin _ (by decide +kernel), codeAny_builtin F.entry_type_call ?_⟩
  rw [Around.under_plain (weight_type_call_type "set" [.ref l] []) rfl]
  have k1 := F.called_set.notType
  have k2 := F.called_set.canCreate
  have Pw := F.typeCall_set_1 (.ref l)
  repeat (any_goals (first | assumption | wp_step))
  refine codeAny_mono (Bn (P := P) (w := w) (.ref l) (E := E) (Q₁ := fun obj az => obj = .ref s.heap.objs.size ∧ az = { s with heap := s.heap.push (fB w) }) ⟨rfl, rfl⟩) fun r az hr => ?_
  cases r with
  | error e => exact hr
  | ok fl =>
    cases fl with
    | ret obj =>
      obtain ⟨rfl, rfl⟩ := hr
      have hS : (s.heap.push (fB w)).get? s.heap.objs.size = some { cls := .type "set", dict := none, data := .set #[] 0 (.fresh 0 0 (!w.params.followText "set-order")) } := Heap.get?_push_size _ rfl
      have Nj : Shared.TypeIs { s with heap := s.heap.push (fB w) } (.ref s.heap.objs.size) "set" := ⟨_, hS, rfl⟩
      have kp : ∀ b o, s.heap.get? b = some o → (s.heap.push (fB w)).get? b = some o := fun b o e => Heap.get?_push_of_some _ e
      have sz : (s.heap.push (fB w)).objs.size = s.heap.objs.size + 1 := by rw [Heap.size_push]
      have CG := F.called_set.init.lookup
      have Kr := F.called_set.init.bind (.ref s.heap.objs.size)
      repeat (any_goals (first | assumption | wp_step))
      refine codeAny_mono (codeAny_call_builtin (R := wants (fun r gI => r = .none ∧ ∃ h' tk, gI = { s with heap := h', toks := tk } ∧ bM P w h' s.heap.objs.size (cR vs) ∧
          (∀ b o, s.heap.get? b = some o → h'.get? b = some o)) E) F.called_set.init.plain F.entry_set_init (check_set_init_1 Nj ?_)) fun LZ gI wy => ?_
      · have Px := hT { s with heap := s.heap.push (fB w) } (fun o e => kp l o e)
        unfold Builtin.«set.__init__» noKeywords Builtin.Frozenset.updateFrom
        generalize Nk : pyIter = PI
        wp_walk
        subst Nk
        obtain ⟨ol, sP⟩ := hl
        have Ks : l < s.heap.objs.size := Heap.lt_size sP
        refine hit _ { s with heap := s.heap.push (fB w) } _ _ (fun o e => kp l o e) ?_
        refine wpAny_bind (wpAny_runValue ?_)
        have Nm : A.in1.in1.in1.handled = none := by simp [hh]
        have L0 : l ≠ (s.heap.push (fB w)).objs.size := by rw [sz]; exact Nat.ne_of_lt (Nat.lt_succ_of_lt Ks)
        have sN : s.heap.objs.size ∉ [(s.heap.push (fB w)).objs.size, l] := by
          rw [sz]; simp only [List.mem_cons, List.not_mem_nil, or_false, not_or]
          exact ⟨Nat.ne_of_lt (Nat.lt_succ_self _), Nat.ne_of_gt Ks⟩
        refine Bk ((hW _ (s.heap.push (fB w)).objs.size Nm L0).toS) s.heap.objs.size sN Bm hb (vs.length - 0) 0 _ (by omega) (Nat.zero_le _) (Ni (s.heap.push (fB w)) fun o e => kp l o e) (vi.bT fun o e => Heap.get?_push_of_some _ e) ?_
        intro s' hm i5
        obtain ⟨h', g', d', yN, CA⟩ := s'
        have eg : g' = s.gens := hm.gens
        have ed : d' = s.drawn := hm.drawn
        have eo : CA = s.os := hm.os
        subst eg; subst ed; subst eo
        show wpAny _ _ _ _ _ _
        refine wpAny_pure ?_
        show wpAny _ _ (ret Value.none) _ _ _
        refine wpAny_pure ⟨rfl, h', yN, rfl, i5, fun b o e => ?_⟩
        have CH : b < s.heap.objs.size := Heap.lt_size e
        refine hm.heap b o ?_ (Heap.get?_push_of_some _ (kp b o e))
        simp only [List.mem_cons, List.not_mem_nil, or_false, not_or]
        exact ⟨Nat.ne_of_lt CH, by rw [sz]; exact Nat.ne_of_lt (Nat.lt_succ_of_lt CH)⟩
      · cases LZ with
        | error e => exact wy
        | ok Jo =>
          cases Jo with
          | ret r =>
            obtain ⟨rfl, h', tk, rfl, i5, qH⟩ := wy
            repeat (any_goals (first | assumption | wp_step))
            exact h _ _ i5 qH
          | _ => exact wy.elim
    | _ => exact hr.elim
end
theorem yO : Manifest.owners.lookup (String.ofList ['r', 'o', 't', 'a', 'r', 'e', 't', 'i', '_', 't', 'e', 's'].reverse) = some Manifest.sig_set_iterator := by kernel_rfl
theorem bZ : Slot "set_iterator" "__next__" "set_iterator.__next__" :=
  .of (owner := "set_iterator") (n := "__next__") (by rw [typeLookup_type, builtinLookup_eq_fast]; kernel_rfl) (by decide +kernel) (by decide +kernel) (by decide +kernel)
    (by first | exact .inl (by decide +kernel) | exact .inr (by decide +kernel)) (by rw [isSubtype_type]; kernel_rfl)
theorem iD : entryFor table "set_iterator.__next__" = some Builtin.«set_iterator.__next__» := entryFor_of_tree (by kernel_rfl)
theorem iE (a : Value) : argsOk "set_iterator.__next__" ⟨[a], []⟩ := by
  unfold argsOk; rw [signature?_of (id := "set_iterator.__next__") (n := ['_', '_', 't', 'x', 'e', 'n', '_', '_']) (o := ['r', 'o', 't', 'a', 'r', 'e', 't', 'i', '_', 't', 'e', 's']) (by kernel_rfl) yO]; kernel_rfl
theorem oI : Slot "set_iterator" "__iter__" "set_iterator.__iter__" :=
  .of (owner := "set_iterator") (n := "__iter__") (by rw [typeLookup_type, builtinLookup_eq_fast]; kernel_rfl) (by decide +kernel) (by decide +kernel) (by decide +kernel)
    (by first | exact .inl (by decide +kernel) | exact .inr (by decide +kernel)) (by rw [isSubtype_type]; kernel_rfl)
theorem wz : entryFor table "set_iterator.__iter__" = some Builtin.«dict_keyiterator.__iter__» :=
  entryFor_alias (id' := "dict_keyiterator.__iter__") (by kernel_rfl) (by first | rfl | decide +kernel | (unfold String.splitOn; simp +decide [String.splitOnAux])) (by decide +kernel) (by kernel_rfl)
theorem wA (a : Value) : argsOk "set_iterator.__iter__" ⟨[a], []⟩ := by
  unfold argsOk; rw [signature?_of (id := "set_iterator.__iter__") (n := ['_', '_', 'r', 'e', 't', 'i', '_', '_']) (o := ['r', 'o', 't', 'a', 'r', 'e', 't', 'i', '_', 't', 'e', 's']) (by kernel_rfl) yO]; kernel_rfl
theorem uJ : entryFor table "set.__iter__" = some Builtin.«frozenset.__iter__» :=
  entryFor_alias (id' := "frozenset.__iter__") (by kernel_rfl) (by first | rfl | decide +kernel | (unfold String.splitOn; simp +decide [String.splitOnAux])) (by decide +kernel) (by kernel_rfl)
noncomputable def d8 (h : Heap) (I a : Addr) (first : Value) (i n ep : Nat) : Prop := ∃ o, h.get? I = some o ∧ o.cls = .type "set_iterator" ∧ o.data = .fields #[first, .int i 0, .ref a, .int n 0, .int ep 0]
theorem d8.typeIs {s : Shared} {I a : Addr} {first : Value} {i n ep : Nat} (x : d8 s.heap I a first i n ep) : s.TypeIs (.ref I) "set_iterator" := let ⟨o, ho, hc, _⟩ := x; ⟨o, ho, hc⟩
theorem eU {α : Type} : ∀ {l : List α} {i : Nat} (h : i < l.length), (l[i] :: l.eraseIdx i).Perm l
  | [], i, h => by simp at h
  | x :: l, 0, h => .refl _
  | x :: l, i + 1, h => by
    rw [List.eraseIdx_cons_succ, List.getElem_cons_succ]
    exact (List.Perm.swap _ _ _).trans (.cons _ (eU (by simpa using h)))
section
variable {P : Program} {w : World} {A : Around} {E : Value → Shared → Prop} {s : Shared}
theorem wp_choose {src : Source} {n : Nat} {Q : Nat → Shared → Prop} (hn : n ≠ 0) (h : ∀ i d, i < n → Q i { s with drawn := d }) : wpAny (model P w) A (choose src n) Q E s := fun Γ p _ => by
  refine ⟨hn, ?_⟩
  exact h _ _ (Nat.mod_lt _ (Nat.pos_of_ne_zero hn))
theorem lb {α : Type} : ∀ (n : Nat) (xs : List α) {s : Shared} {Q : List α → Shared → Prop}, n = xs.length → (∀ ys d, ys.Perm xs → Q ys { s with drawn := d }) → wpAny (model P w) A (drawOrder n xs) Q E s
  | 0, xs, s, Q, hn, h => by
    have : xs = [] := List.eq_nil_of_length_eq_zero hn.symm
    subst this
    exact wpAny_pure (h [] s.drawn .nil)
  | n + 1, [], s, Q, hn, h => by simp at hn
  | n + 1, x :: xs, s, Q, hn, h => by
    show wpAny _ _ (choose .order (x :: xs).length >>= _) _ _ s
    refine wpAny_bind (wp_choose (by simp) fun i d hi => ?_)
    have e : (x :: xs)[i]? = some (x :: xs)[i] := List.getElem?_eq_getElem hi
    rw [e]
    dsimp only
    refine wpAny_bind (lb n _ (by rw [List.length_eraseIdx_of_lt hi]; simp at hn ⊢; omega) fun ys d' hp => wpAny_pure (h _ _ ?_))
    exact (List.Perm.cons _ hp).trans (eU hi)
end
section
variable {P : Program} {w : World} {A : Around} {E : Value → Shared → Prop} {s : Shared}
structure i6 (P : Program) (w : World) (h : Heap) (a : Addr) (es : Array (Int × Value)) (ep : Nat) (t : SetTable) : Prop where
  at_ : ∃ o, h.get? a = some o ∧ o.ExactSet ∧ o.data = .set es ep t
  fits : t.fits es.size = true
  tab : bP w t
theorem vj {α : Type} (next : Nat → Nat) : ∀ (fuel k : Nat) (left : List α) (out : Array α), fuel = left.length → (pickOrder.go next fuel k left out).toList.Perm (out.toList ++ left)
  | 0, k, left, out, h => by
    have : left = [] := List.eq_nil_of_length_eq_zero h.symm
    subst this
    simp [pickOrder.go]
  | fuel + 1, k, left, out, h => by
    unfold pickOrder.go
    have hl : next k % left.length < left.length := Nat.mod_lt _ (by omega)
    rw [List.getElem?_eq_getElem hl]
    dsimp only
    refine (vj next fuel (k + 1) _ _ (by rw [List.length_eraseIdx_of_lt hl]; omega)).trans ?_
    rw [Array.toList_push, List.append_assoc]
    exact List.Perm.append_left _ (eU hl)
theorem qM {α : Type} (next : Nat → Nat) (xs : Array α) : (pickOrder next xs).toList.Perm xs.toList := by
  unfold pickOrder
  exact (vj next xs.size 0 xs.toList #[] (by simp)).trans (by simp)
theorem lg {Q : Bool → Shared → Prop} (h : Q (w.params.followText "set-order") s) : wpAny (model P w) A setsByText Q E s := by
  unfold setsByText
  exact wpAny_bind (wpAny_askSetting (wpAny_pure h))
theorem oJ {a : Addr} {es : Array (Int × Value)} {ep : Nat} {t : SetTable} {slot given : Nat} {Q : Option (Value × Nat) → Shared → Prop} (hE : i6 P w s.heap a es ep t)
    (hd : w.params.followText "set-order" = false → (!t.plain && decide (es.size > 1)) = false)
    (h1 : w.params.followText "set-order" = true → Q ((pickOrder (w.params.setOrder a ep) es)[given]?.map fun e => (e.2, slot)) s)
    (h2 : w.params.followText "set-order" = false → Q (match es[SetTable.below t.place slot]?, t.place[SetTable.below t.place slot]? with | some (_, x), some j => some (x, j + 1) | _, _ => none) s) :
    wpAny (model P w) A (setNext a slot given ep) Q E s := by
  obtain ⟨⟨o, ho, hex, m6⟩, hf, ht⟩ := hE
  unfold setNext
  refine wpAny_bind (wpAny_setState_of ho m6 hf ?_)
  dsimp only
  refine wpAny_bind (lg ?_)
  cases hb : w.params.followText "set-order" with
  | true =>
    simp only [if_true, bne_self_eq_false, Bool.false_eq_true, if_false]
    unfold setWalk
    refine wpAny_bind (wpAny_bind (wpAny_setState_of ho m6 hf ?_))
    dsimp only
    refine wpAny_bind (lg ?_)
    rw [hb]
    simp only [if_true]
    refine wpAny_bind (wpAny_askSetting (wpAny_pure (wpAny_pure ?_)))
    exact h1 hb
  | false =>
    simp only [Bool.false_eq_true, if_false]
    have ju := hd hb
    have L1 : t.led = true := by rw [ht.led, hb]; rfl
    show wpAny _ _ (if (!t.plain && decide (es.size > 1)) = true then _ else _) _ _ s
    rw [ju]
    simp only [Bool.false_eq_true, if_false]
    refine wpAny_bind ?_
    show wpAny _ _ (if (!t.led && !es.isEmpty) = true then _ else _) _ _ s
    rw [L1]
    simp only [Bool.not_true, Bool.false_and, Bool.false_eq_true, if_false]
    exact wpAny_pure (wpAny_pure (h2 hb))
end
section
variable {P : Program} {w : World} {A : Around} {E : Value → Shared → Prop} {s : Shared}
theorem d8.Gs {h : Heap} {I a : Addr} {first x : Value} {i n ep : Nat} (hit : d8 h I a first i n ep) : d8 (h.update I (Obj.mapFields (·.setIfInBounds 0 x))) I a x i n ep := by
  obtain ⟨o, ho, hc, hd⟩ := hit
  exact ⟨_, Heap.get?_update_self _ ho (Obj.isFreed_of_fields (Obj.data_mapFields hd _)), (Obj.cls_mapFields ..).trans hc, by rw [Obj.data_mapFields hd]; simp⟩
theorem d8.sQ {h : Heap} {I a : Addr} {first : Value} {i n ep : Nat} (hit : d8 h I a first i n ep) : d8 (h.update I (Obj.mapFields (·.setIfInBounds 1 (rawInt ((i : Int) + 1))))) I a first (i + 1) n ep := by
  obtain ⟨o, ho, hc, hd⟩ := hit
  exact ⟨_, Heap.get?_update_self _ ho (Obj.isFreed_of_fields (Obj.data_mapFields hd _)), (Obj.cls_mapFields ..).trans hc, by rw [Obj.data_mapFields hd]; simp [rawInt]⟩
theorem jY {I a : Addr} {first x : Value} {i n ep k : Nat} {Q : Unit → Shared → Prop} (hk : k < 5) (hit : d8 s.heap I a first i n ep) (h : Q () { s with heap := s.heap.update I (Obj.mapFields (·.setIfInBounds k x)) }) : wpAny (model P w) A (setField (.ref I) k x) Q E s := by
  obtain ⟨o, ho, hc, hd⟩ := hit
  exact wpAny_setField ho hd (by simpa using hk) h
theorem vm {Q : Fin → Shared → Prop} (hh : A.handled = none) (h : ∀ e h', s.TypeIs e "StopIteration" ∨ True → (∀ b o, s.heap.get? b = some o → h'.get? b = some o) → Shared.TypeIs { s with heap := h' } e "StopIteration" → E e { s with heap := h' }) :
    wpAny (model P w) A (newExc (.type "StopIteration") [] >>= fun e => raiseNew e) Q E s := by
  refine wpAny_bind ?_
  simp only [newExc, newTuple]
  refine wpAny_bind (wpAny_newObj_type ?_ (by size_fits))
  refine wpAny_bind (m := firstArgMember _ _) (wpAny_of_eq (a := Value.none) (by first | rfl | (simp only [firstArgMember]; rfl)) ?_)
  refine wpAny_newObj_type ?_ (by size_fits)
  simp only [raiseNew]
  refine wpAny_bind (wpAny_handled ?_)
  rw [hh]
  refine wpAny_bind (wpAny_pure (wpAny_throw ?_))
  exact h _ _ (.inr trivial) (fun b o e => Heap.get?_push_of_some _ (Heap.get?_push_of_some _ e)) ⟨_, Heap.get?_push_size _ rfl, rfl⟩
theorem sR {Q : Option Value → Shared → Prop} {e : Value} (hT : s.TypeIs e "StopIteration") (h : Q none s) : wpAny (model P w) A (do let b ← isInstance e (.type "StopIteration"); if b = true then pure none else throw e) Q E s :=
  wpAny_bind (wpAny_isInstance (T := "StopIteration") (b := true) hT isSubtype_stop (wpAny_pure h))
theorem DT {I a : Addr} {slot i ep next : Nat} {es : Array (Int × Value)} {t : SetTable} {x : Value} {Q : Option Value → Shared → Prop} (hit : d8 s.heap I a (.int slot 0) i es.size ep) (hE : i6 P w s.heap a es ep t)
    (hd : w.params.followText "set-order" = false → (!t.plain && decide (es.size > 1)) = false)
    (h1 : w.params.followText "set-order" = true → (pickOrder (w.params.setOrder a ep) es)[i]?.map (fun e => (e.2, slot)) = some (x, next))
    (h2 : w.params.followText "set-order" = false → (match es[SetTable.below t.place slot]?, t.place[SetTable.below t.place slot]? with | some (_, x), some j => some (x, j + 1) | _, _ => none) = some (x, next))
    (hQ : ∀ h', d8 h' I a (.int next 0) (i + 1) es.size ep → Heap.SameBut I s.heap h' → Q (some x) { s with heap := h' }) : wpAny (model P w) A (pyNext (.ref I)) Q E s := by
  obtain ⟨o, ho, hc, ju⟩ := id hit
  obtain ⟨oa, qN, Bo, qO⟩ := hE.at_
  unfold pyNext
  refine wpAny_bind (wpAny_attempt (wpAny_callSpecial?_slot (name := Str.ofString "__next__") hit.typeIs bZ (wpAny_call_entry bZ hit.typeIs iD ?_ (iE _))))
  unfold Builtin.«set_iterator.__next__»
  refine wpAny_bind (m := slotArgs "__next__" 0 _) (wpAny_pure ?_)
  dsimp only
  refine wpAny_bind (wpAny_fieldsOf ho ju ?_)
  dsimp only
  refine wpAny_bind (wpAny_setEntries_of qN qO hE.fits ?_)
  simp only [bne_self_eq_false, Bool.false_eq_true, if_false, Int.toNat_natCast]
  have fin : ∀ r, r = some (x, next) → wpAny (model P w) A.in1 (match r with
        | some (x, next) => do
          setField (Value.ref I) 0 (rawInt next)
          setField (Value.ref I) 1 (rawInt (↑i + 1))
          ret x
        | none => do
          setField (Value.ref I) 2 Value.none
          let __do_lift ← newExc (Value.type "StopIteration") []
          raiseNew __do_lift) (fun fin s' => ∃ v, fin = Fin.done (Flow.ret v) ∧ wpAny (model P w) A (pure (some v)) Q E s') (fun e s' => wpAny (model P w) A (do
          let __do_lift ← isInstance e (Value.type "StopIteration")
          if __do_lift = true then pure none else throw e) Q E s') s := fun r hr => by
    subst hr
    dsimp only
    refine wpAny_bind (jY (by decide) hit ?_)
    have Gu := hit.Gs (x := rawInt next)
    refine wpAny_bind (jY (by decide) Gu ?_)
    exact wpAny_pure ⟨x, rfl, wpAny_pure (hQ _ Gu.sQ ((Heap.SameBut.update ..).trans (Heap.SameBut.update ..)))⟩
  exact wpAny_bind (oJ hE hd (fun hb => fin _ (h1 hb)) (fun hb => fin _ (h2 hb)))
theorem DU {I a : Addr} {slot i ep : Nat} {es : Array (Int × Value)} {t : SetTable} {Q : Option Value → Shared → Prop} (hh : A.handled = none) (hit : d8 s.heap I a (.int slot 0) i es.size ep) (hE : i6 P w s.heap a es ep t)
    (hd : w.params.followText "set-order" = false → (!t.plain && decide (es.size > 1)) = false)
    (h1 : w.params.followText "set-order" = true → (pickOrder (w.params.setOrder a ep) es)[i]?.map (fun e => (e.2, slot)) = none)
    (h2 : w.params.followText "set-order" = false → (match es[SetTable.below t.place slot]?, t.place[SetTable.below t.place slot]? with | some (_, x), some j => some (x, j + 1) | _, _ => none) = none)
    (hQ : ∀ h', (∀ b o, b ≠ I → s.heap.get? b = some o → h'.get? b = some o) → Q none { s with heap := h' }) : wpAny (model P w) A (pyNext (.ref I)) Q E s := by
  obtain ⟨o, ho, hc, ju⟩ := id hit
  obtain ⟨oa, qN, Bo, qO⟩ := hE.at_
  unfold pyNext
  refine wpAny_bind (wpAny_attempt (wpAny_callSpecial?_slot (name := Str.ofString "__next__") hit.typeIs bZ (wpAny_call_entry bZ hit.typeIs iD ?_ (iE _))))
  unfold Builtin.«set_iterator.__next__»
  refine wpAny_bind (m := slotArgs "__next__" 0 _) (wpAny_pure ?_)
  dsimp only
  refine wpAny_bind (wpAny_fieldsOf ho ju ?_)
  dsimp only
  refine wpAny_bind (wpAny_setEntries_of qN qO hE.fits ?_)
  simp only [bne_self_eq_false, Bool.false_eq_true, if_false, Int.toNat_natCast]
  have fin : ∀ r : Option (Value × Nat), r = none → wpAny (model P w) A.in1 (match r with
        | some (x, next) => do
          setField (Value.ref I) 0 (rawInt next)
          setField (Value.ref I) 1 (rawInt (↑i + 1))
          ret x
        | none => do
          setField (Value.ref I) 2 Value.none
          let __do_lift ← newExc (Value.type "StopIteration") []
          raiseNew __do_lift) (fun fin s' => ∃ v, fin = Fin.done (Flow.ret v) ∧ wpAny (model P w) A (pure (some v)) Q E s') (fun e s' => wpAny (model P w) A (do
          let __do_lift ← isInstance e (Value.type "StopIteration")
          if __do_lift = true then pure none else throw e) Q E s') s := fun r hr => by
    subst hr
    dsimp only
    refine wpAny_bind (jY (by decide) hit ?_)
    exact vm hh fun e h' _ k hT => sR hT (hQ h' fun b o hb q => k b o ((Heap.get?_update_other _ _ (Ne.symm hb)).trans q))
  exact wpAny_bind (oJ hE hd (fun hb => fin _ (h1 hb)) (fun hb => fin _ (h2 hb)))
theorem DV {I a T : Addr} {i ep j : Nat} {es : Array (Int × Value)} {t : SetTable} {ps : List Nat} {x : Int × Value} {Q : Option Value → Shared → Prop} (hit : d8 s.heap I a (.ref T) i es.size ep) (hE : i6 P w s.heap a es ep t)
    (hT : s.heap.IsTuple T (ps.map fun (i : Nat) => rawInt i).toArray) (hj : ps[i]? = some j) (hx : es[j]? = some x)
    (hQ : ∀ h', d8 h' I a (.ref T) (i + 1) es.size ep → Heap.SameBut I s.heap h' → Q (some x.2) { s with heap := h' }) : wpAny (model P w) A (pyNext (.ref I)) Q E s := by
  obtain ⟨o, ho, hc, ju⟩ := id hit
  obtain ⟨oa, qN, Bo, qO⟩ := hE.at_
  unfold pyNext
  refine wpAny_bind (wpAny_attempt (wpAny_callSpecial?_slot (name := Str.ofString "__next__") hit.typeIs bZ (wpAny_call_entry bZ hit.typeIs iD ?_ (iE _))))
  unfold Builtin.«set_iterator.__next__»
  refine wpAny_bind (m := slotArgs "__next__" 0 _) (wpAny_pure ?_)
  dsimp only
  refine wpAny_bind (wpAny_fieldsOf ho ju ?_)
  dsimp only
  refine wpAny_bind (wpAny_setEntries_of qN qO hE.fits ?_)
  simp only [bne_self_eq_false, Bool.false_eq_true, if_false, Int.toNat_natCast]
  obtain ⟨ot, Gv, _, nt, m6⟩ := hT
  refine wpAny_bind (wpAny_seqItems Gv m6 ?_)
  have e : (ps.map fun (i : Nat) => rawInt i).toArray[i]? = some (rawInt j) := by simp [hj]
  dsimp only
  rw [e]
  show wpAny _ _ (setNextDrawn a (Int.toNat (j : Int)) ep >>= _) _ _ s
  rw [Int.toNat_natCast]
  refine wpAny_bind ?_
  unfold setNextDrawn
  refine wpAny_bind (wpAny_setState_of qN qO hE.fits ?_)
  simp only [bne_self_eq_false, Bool.false_eq_true, if_false, hx]
  refine wpAny_pure ?_
  refine wpAny_bind (jY (by decide) hit ?_)
  exact wpAny_pure ⟨x.2, rfl, wpAny_pure (hQ _ hit.sQ (Heap.SameBut.update ..))⟩
theorem DW {I a T : Addr} {i ep : Nat} {es : Array (Int × Value)} {t : SetTable} {ps : List Nat} {Q : Option Value → Shared → Prop} (hh : A.handled = none) (hit : d8 s.heap I a (.ref T) i es.size ep) (hE : i6 P w s.heap a es ep t)
    (hT : s.heap.IsTuple T (ps.map fun (i : Nat) => rawInt i).toArray) (hj : ps.length ≤ i)
    (hQ : ∀ h', (∀ b o, b ≠ I → s.heap.get? b = some o → h'.get? b = some o) → Q none { s with heap := h' }) : wpAny (model P w) A (pyNext (.ref I)) Q E s := by
  obtain ⟨o, ho, hc, ju⟩ := id hit
  obtain ⟨oa, qN, Bo, qO⟩ := hE.at_
  unfold pyNext
  refine wpAny_bind (wpAny_attempt (wpAny_callSpecial?_slot (name := Str.ofString "__next__") hit.typeIs bZ (wpAny_call_entry bZ hit.typeIs iD ?_ (iE _))))
  unfold Builtin.«set_iterator.__next__»
  refine wpAny_bind (m := slotArgs "__next__" 0 _) (wpAny_pure ?_)
  dsimp only
  refine wpAny_bind (wpAny_fieldsOf ho ju ?_)
  dsimp only
  refine wpAny_bind (wpAny_setEntries_of qN qO hE.fits ?_)
  simp only [bne_self_eq_false, Bool.false_eq_true, if_false, Int.toNat_natCast]
  obtain ⟨ot, Gv, _, nt, m6⟩ := hT
  refine wpAny_bind (wpAny_seqItems Gv m6 ?_)
  have e : (ps.map fun (i : Nat) => rawInt i).toArray[i]? = none := by simp [hj]
  dsimp only
  rw [e]
  dsimp only
  refine wpAny_bind (jY (by decide) hit ?_)
  refine wpAny_bind (jY (by decide) (hit.Gs (x := rawInt 0)) ?_)
  exact vm hh fun e h' _ k hT => sR hT (hQ h' fun b o hb q => k b o ((Heap.get?_update_other _ _ (Ne.symm hb)).trans ((Heap.get?_update_other _ _ (Ne.symm hb)).trans q)))
end
theorem d8.bT {h h' : Heap} {I a : Addr} {first : Value} {i n ep : Nat} (x : d8 h I a first i n ep) (k : ∀ o, h.get? I = some o → h'.get? I = some o) : d8 h' I a first i n ep := let ⟨o, ho, r⟩ := x; ⟨o, k o ho, r⟩
theorem i6.bT {P : Program} {w : World} {h h' : Heap} {a : Addr} {es : Array (Int × Value)} {ep : Nat} {t : SetTable} (x : i6 P w h a es ep t) (k : ∀ o, h.get? a = some o → h'.get? a = some o) : i6 P w h' a es ep t :=
  ⟨let ⟨o, ho, r⟩ := x.at_; ⟨o, k o ho, r⟩, x.fits, x.tab⟩
theorem wB {xs : Array Nat} (h : jW xs) {i : Nat} (hi : i < xs.size) : SetTable.below xs (xs[i] + 1) = i + 1 := by
  obtain ⟨b0, b1, b2⟩ := nG (xs[i] + 1) h
  generalize SetTable.below xs (xs[i] + 1) = p at *
  have h1 : i < p := by
    refine Nat.lt_of_not_le fun hp => ?_
    have := b2 i hi hp
    omega
  refine Nat.le_antisymm (Nat.le_of_not_lt fun hp => ?_) h1
  have Kt : i + 1 < xs.size := by omega
  have q := b1 (i + 1) Kt hp
  have q2 := oE h (show i < i + 1 by omega) Kt
  omega
theorem wC {xs : Array Nat} (h : jW xs) : SetTable.below xs 0 = 0 := by
  obtain ⟨b0, b1, b2⟩ := nG 0 h
  generalize SetTable.below xs 0 = p at *
  by_cases hp : p = 0
  · exact hp
  · have := b1 0 (by omega) (by omega)
    omega
section
variable {P : Program} {w : World} {A : Around} {E : Value → Shared → Prop} {s : Shared}
theorem si_self {I a : Addr} {first : Value} {i n ep : Nat} {Q : Value → Shared → Prop} (hit : d8 s.heap I a first i n ep) (h : Q (.ref I) s) : wpAny (model P w) A (pyIter (.ref I)) Q E s := by
  refine wpAny_pyIter_slot hit.typeIs oI (wpAny_call_entry oI hit.typeIs wz ?_ (wA _))
  show wpAny _ _ (ret (.ref I)) _ _ s
  exact wpAny_pure ⟨_, rfl, "set_iterator", _, hit.typeIs, bZ.lookup, h⟩
theorem sS {es : List (Int × Value)} (h : ElemsOf (intKind P w) es) {e : Int × Value} (he : e ∈ es) : ∃ t, e.2 = .int (du e) t := by
  obtain ⟨⟨k', qH, _⟩, _⟩ := h e he
  obtain ⟨t, e2⟩ := Value.isInt_shape (k := k') (v := e.2) qH
  exact ⟨t, by unfold du; rw [e2]⟩
noncomputable abbrev yP (xs : List Int) : Nat → Value → Prop := fun i v => ∃ m t, xs[i]? = some m ∧ v = .int m t
noncomputable def eV (w : World) (a : Addr) (ep : Nat) (es : Array (Int × Value)) : List (Int × Value) := if w.params.followText "set-order" = true then (pickOrder (w.params.setOrder a ep) es).toList else es.toList
theorem iF (w : World) (a : Addr) (ep : Nat) (es : Array (Int × Value)) : (eV w a ep es).Perm es.toList := by
  unfold eV
  split
  · exact qM _ _
  · exact .refl _
theorem Bp {I a : Addr} {es : Array (Int × Value)} {ep : Nat} {t : SetTable} (hh : A.handled = none) (eF : a ≠ I) (jy : ElemsOf (intKind P w) es.toList) (hd : w.params.followText "set-order" = false → (!t.plain && decide (es.size > 1)) = false) :
    WalksS P w A I [I, a] [I] (fun a b => b = a) ((eV w a ep es).map du).length (yP ((eV w a ep es).map du))
      (fun i s => i6 P w s.heap a es ep t ∧ ∃ slot : Nat, d8 s.heap I a (.int slot 0) i es.size ep ∧ (w.params.followText "set-order" = false → SetTable.below t.place slot = i)) where
  sub := fun b hb => by simp at hb; simp [hb]
  grefl := fun _ => rfl
  gtrans := fun _ _ _ h1 h2 => h2.trans h1
  frame := fun i s h' _ st _ hk => ⟨st.1.bT fun o e => hk a (by simp) o e, let ⟨slot, h1, h2⟩ := st.2; ⟨slot, h1.bT fun o e => hk I (by simp) o e, h2⟩⟩
  item := fun i s Q E hi st hQ => by
    obtain ⟨hE, slot, hit, hb⟩ := st
    have hl : i < (eV w a ep es).length := by simpa using hi
    have CG : i < es.size := by rw [← Array.length_toList, ← (iF w a ep es).length_eq]; exact hl
    obtain ⟨tk, he⟩ := sS (P := P) (w := w) jy ((iF w a ep es).mem_iff.mp (List.getElem_mem hl))
    have bV : i < t.place.size := by
      have := hE.fits
      simp only [SetTable.fits, Bool.and_eq_true, beq_iff_eq] at this
      rw [this.1]; exact CG
    refine DT (next := if w.params.followText "set-order" = true then slot else t.place[i] + 1) (x := ((eV w a ep es)[i]).2) hit hE hd (fun gF => ?_) (fun gF => ?_) (fun h' Bq hs => hQ _ _ ⟨_, tk, by rw [List.getElem?_map, List.getElem?_eq_getElem hl]; rfl, he⟩ ⟨hE.bT fun o e => by rw [hs.2 a eF]; exact e, _, Bq, fun gF => ?_⟩ ⟨fun b o hb e => by rw [hs.2 b (fun z => hb (by simp [z]))]; exact e, rfl, rfl, rfl, Nat.le_refl _⟩)
    · rw [if_pos gF]
      have e1 : eV w a ep es = (pickOrder (w.params.setOrder a ep) es).toList := by unfold eV; rw [if_pos gF]
      have e2 : (pickOrder (w.params.setOrder a ep) es)[i]? = some (eV w a ep es)[i] := by
        rw [← Array.getElem?_toList, ← e1]
        exact List.getElem?_eq_getElem hl
      rw [e2]
      rfl
    · rw [if_neg (by rw [gF]; decide), hb gF, Array.getElem?_eq_getElem CG, Array.getElem?_eq_getElem bV]
      have e1 : eV w a ep es = es.toList := by unfold eV; rw [if_neg (by rw [gF]; decide)]
      have e2 : (eV w a ep es)[i] = es[i] := by simp [e1]
      rw [e2]
    · rw [if_neg (by rw [gF]; decide)]
      exact wB hE.tab.ris bV
  done := fun s Q E st hQ => by
    obtain ⟨hE, slot, hit, hb⟩ := st
    have hl : ((eV w a ep es).map du).length = es.size := by rw [List.length_map, (iF w a ep es).length_eq, Array.length_toList]
    rw [hl] at hit hb
    refine DU hh hit hE hd (fun gF => ?_) (fun gF => ?_) (fun h' k => hQ _ ⟨fun b o hb e => k b o (fun z => hb (by simp [z])) e, rfl, rfl, rfl, Nat.le_refl _⟩)
    · have e1 : (pickOrder (w.params.setOrder a ep) es)[es.size]? = none := by
        refine Array.getElem?_eq_none ?_
        rw [← Array.length_toList, (qM _ es).length_eq, Array.length_toList]
        exact Nat.le_refl _
      rw [e1]
      rfl
    · rw [hb gF, Array.getElem?_eq_none (Nat.le_refl _)]
  self := fun i s Q E st hQ => let ⟨_, slot, hit, _⟩ := st; si_self hit hQ
theorem wD {I a T : Addr} {es : Array (Int × Value)} {ep : Nat} {t : SetTable} {ps : List Nat} (hh : A.handled = none) (eF : a ≠ I) (L3 : T ≠ I) (jy : ElemsOf (intKind P w) es.toList) (yQ : ∀ j ∈ ps, j < es.size) (bV : ps.length = es.size) :
    WalksS P w A I [I, a, T] [I] (fun a b => b = a) (ps.map fun j => du (es.getD j (0, .none))).length (yP (ps.map fun j => du (es.getD j (0, .none))))
      (fun i s => i6 P w s.heap a es ep t ∧ s.heap.IsTuple T (ps.map fun (i : Nat) => rawInt i).toArray ∧ d8 s.heap I a (.ref T) i es.size ep) where
  sub := fun b hb => by simp at hb; simp [hb]
  grefl := fun _ => rfl
  gtrans := fun _ _ _ h1 h2 => h2.trans h1
  frame := fun i s h' _ st _ hk => ⟨st.1.bT fun o e => hk a (by simp) o e, st.2.1.at fun o e => hk T (by simp) o e, st.2.2.bT fun o e => hk I (by simp) o e⟩
  item := fun i s Q E hi st hQ => by
    obtain ⟨hE, hT, hit⟩ := st
    have hl : i < ps.length := by simpa using hi
    have hj := yQ _ (List.getElem_mem hl)
    have hx : es[ps[i]]? = some es[ps[i]] := Array.getElem?_eq_getElem hj
    have hg : es.getD ps[i] (0, .none) = es[ps[i]] := by simp [Array.getD, hj]
    obtain ⟨tk, he⟩ := sS (P := P) (w := w) jy (show es[ps[i]] ∈ es.toList by simp)
    refine DV hit hE hT (List.getElem?_eq_getElem hl) hx fun h' Bq hs => hQ _ _ ⟨_, tk, by rw [List.getElem?_map, List.getElem?_eq_getElem hl]; rfl, by dsimp only; rw [hg]; exact he⟩ ⟨hE.bT fun o e => by rw [hs.2 a eF]; exact e, hT.at fun o e => by rw [hs.2 T L3]; exact e, Bq⟩ ⟨fun b o hb e => by rw [hs.2 b (fun z => hb (by simp [z]))]; exact e, rfl, rfl, rfl, Nat.le_refl _⟩
  done := fun s Q E st hQ => by
    obtain ⟨hE, hT, hit⟩ := st
    have hl : (ps.map fun j => du (es.getD j (0, .none))).length = ps.length := List.length_map _
    rw [hl] at hit
    exact DW hh hit hE hT (Nat.le_refl _) fun h' k => hQ _ ⟨fun b o hb e => k b o (fun z => hb (by simp [z])) e, rfl, rfl, rfl, Nat.le_refl _⟩
  self := fun i s Q E st hQ => si_self st.2.2 hQ
theorem wF {a : Addr} {ns : List Int} {Q : Value → Shared → Prop} (hS : bM P w s.heap a ns)
    (hQ : ∀ (I : Addr) (h' : Heap) (d' : Drawn) (xs : List Int) (fp : List Addr) (St : Nat → Shared → Prop), xs.Perm ns → (∀ b o, s.heap.get? b = some o → h'.get? b = some o) → s.heap.objs.size ≤ I → (∀ b ∈ fp, b = a ∨ s.heap.objs.size ≤ b) →
      (∀ A' : Around, A'.handled = none → WalksS P w A' I fp [I] (fun a b => b = a) xs.length (yP xs) St) → St 0 { s with heap := h', drawn := d' } → Q (.ref I) { s with heap := h', drawn := d' }) : wpAny (model P w) A (pyIter (.ref a)) Q E s := by
  have Ku := hS.typeIs (h := s.heap)
  obtain ⟨o, es, ep, t, ho, hex, hd, jy, hp, hn, hb, hf, ht⟩ := hS
  have hE : i6 P w s.heap a es ep t := ⟨⟨o, ho, hex, hd⟩, hf, ht⟩
  have aU := Heap.lt_size ho
  refine wpAny_pyIter_slot Ku F.slot_set_iter (wpAny_call_entry F.slot_set_iter Ku uJ ?_ (F.args_set_iter_1 _))
  unfold Builtin.«frozenset.__iter__»
  refine wpAny_bind (m := Builtin.Frozenset.slot0 "__iter__" _) (wpAny_pure ?_)
  unfold Builtin.Frozenset.sizeOf
  refine wpAny_bind (wpAny_bind (wpAny_setEntries_of ho hd hf (wpAny_pure ?_)))
  refine wpAny_bind ?_
  unfold setDrawn
  refine wpAny_bind (wpAny_setState_of ho hd hf ?_)
  dsimp only
  refine wpAny_bind (lg ?_)
  refine wpAny_pure ?_
  by_cases qP : (!w.params.followText "set-order" && (!t.plain && decide (es.size > 1))) = true
  · show wpAny _ _ (if (!w.params.followText "set-order" && (!t.plain && decide (es.size > 1))) = true then _ else _) _ _ s
    rw [if_pos qP]
    refine wpAny_bind (lb _ _ (by simp) fun ps d yQ => ?_)
    have bV : ps.length = es.size := by rw [yQ.length_eq, List.length_range]
    refine wpAny_bind (wpAny_newTuple ?_ (by rw [List.length_map, bV]; exact fits_of_scanBound hb))
    refine wpAny_bind (wpAny_setEpoch_of (o := o) (Heap.get?_push_of_some _ ho) hd hf ?_)
    unfold newFields
    refine wpAny_bind (wpAny_newObj_type ?_ (by size_fits))
    have hsz : ∀ u : Obj, (s.heap.push u).objs.size = s.heap.objs.size + 1 := fun u => Heap.size_push _ _
    have hit : d8 ((s.heap.push { cls := .type "tuple", data := .seq (ps.map fun (i : Nat) => rawInt i).toArray }).push { cls := .type "set_iterator", data := .fields #[.ref s.heap.objs.size, .int (0 : Nat) 0, .ref a, .int es.size 0, .int ep 0] }) (s.heap.push { cls := .type "tuple", data := .seq (ps.map fun (i : Nat) => rawInt i).toArray }).objs.size a (.ref s.heap.objs.size) 0 es.size ep := ⟨_, Heap.get?_push_size _ rfl, rfl, rfl⟩
    have Np : (ps.map fun j => du (es.getD j (0, .none))).Perm ns := by
      refine ((yQ.map _).trans ?_).trans hp
      have : (List.range es.size).map (fun j => du (es.getD j (0, .none))) = es.toList.map du := by
        refine List.ext_getElem (by simp) fun n h1 h2 => ?_
        have xW : n < es.size := by simpa using h1
        simp [Array.getD, xW]
      rw [this]
    refine wpAny_pure ⟨_, rfl, "set_iterator", _, d8.typeIs (s := { s with heap := _, drawn := d }) hit, bZ.lookup, ?_⟩
    refine hQ _ _ d _ [(s.heap.push { cls := .type "tuple", data := .seq (ps.map fun (i : Nat) => rawInt i).toArray }).objs.size, a, s.heap.objs.size] _ Np (fun b o e => Heap.get?_push_of_some _ (Heap.get?_push_of_some _ e)) (by rw [hsz]; exact Nat.le_succ _) (fun b hb => ?_) (fun A' hA => wD (t := t) (ep := ep) hA ?_ ?_ jy (fun j hj => by simpa using yQ.mem_iff.mp hj) bV) ⟨hE.bT fun o e => Heap.get?_push_of_some _ (Heap.get?_push_of_some _ e), ⟨_, Heap.get?_push_of_some _ (Heap.get?_push_size _ rfl), rfl, _, rfl⟩, hit⟩
    · simp only [List.mem_cons, List.not_mem_nil, or_false] at hb
      rcases hb with rfl | rfl | rfl
      · exact .inr (by rw [hsz]; exact Nat.le_succ _)
      · exact .inl rfl
      · exact .inr (Nat.le_refl _)
    · rw [hsz]; exact Nat.ne_of_lt (Nat.lt_succ_of_lt aU)
    · rw [hsz]; exact Nat.ne_of_lt (Nat.lt_succ_self _)
  · show wpAny _ _ (if (!w.params.followText "set-order" && (!t.plain && decide (es.size > 1))) = true then _ else _) _ _ s
    rw [if_neg qP]
    refine wpAny_bind (wpAny_pure (wpAny_bind (wpAny_setEpoch_of ho hd hf ?_)))
    unfold newFields
    refine wpAny_bind (wpAny_newObj_type ?_ (by size_fits))
    have hit : d8 (s.heap.push { cls := .type "set_iterator", data := .fields #[.int (0 : Nat) 0, .int (0 : Nat) 0, .ref a, .int es.size 0, .int ep 0] }) s.heap.objs.size a (.int (0 : Nat) 0) 0 es.size ep := ⟨_, Heap.get?_push_size _ rfl, rfl, rfl⟩
    refine wpAny_pure ⟨_, rfl, "set_iterator", _, d8.typeIs (s := { s with heap := _ }) hit, bZ.lookup, ?_⟩
    refine hQ _ _ s.drawn _ [s.heap.objs.size, a] _ (((iF w a ep es).map du).trans hp) (fun b o e => Heap.get?_push_of_some _ e) (Nat.le_refl _) (fun b hb => ?_) (fun A' hA => Bp (t := t) (ep := ep) hA (Nat.ne_of_lt aU) jy fun hb => ?_) ⟨hE.bT fun o e => Heap.get?_push_of_some _ e, 0, hit, fun _ => wC ht.ris⟩
    · simp only [List.mem_cons, List.not_mem_nil, or_false] at hb
      rcases hb with rfl | rfl
      · exact .inr (Nat.le_refl _)
      · exact .inl rfl
    · rw [hb] at qP
      simpa using qP
end
section
variable {P : Program} {w : World} {A : Around} {E : Value → Shared → Prop} {s : Shared}
theorem uK {a : Addr} {Q : Bool → Shared → Prop} (hT : s.TypeIs (.ref a) "set") (h : Q false s) : wpAny (model P w) A (Builtin.List.listLengthHint (.ref a)) Q E s := by
  unfold Builtin.List.listLengthHint
  refine wpAny_bind (wpAny_specialOf hT F.slot_set_len.lookup ?_)
  have e : splitId "set.__len__" = some ("set", "__len__") := by kernel_rfl
  dsimp only
  rw [e]
  dsimp only
  refine wpAny_bind (wpAny_isInstance hT sub_set_self ?_)
  simp only [Bool.not_true, Bool.false_eq_true, if_false]
  show wpAny _ _ (if _ = true then _ else _) _ _ s
  rw [if_pos (by kernel_rfl)]
  exact wpAny_bind (wpAny_typeOf hT (wpAny_pure h))
theorem ints_of {xs : List Int} {acc : Array Value} (h : ItemsOf (yP xs) acc xs.length) : IntsAre acc.toList xs := by
  obtain ⟨hs, hi⟩ := h
  have : ∀ (vs : List Value) (xs : List Int), vs.length = xs.length → (∀ (j : Nat) (v : Value), vs[j]? = some v → yP xs j v) → IntsAre vs xs := by
    intro vs
    induction vs with
    | nil => intro xs hl _; cases xs with | nil => exact .nil | cons x xs => simp at hl
    | cons v vs ih =>
      intro xs hl hg
      cases xs with
      | nil => simp at hl
      | cons x xs =>
        obtain ⟨m, t, e1, rfl⟩ := hg 0 v rfl
        have e2 : x = m := by simpa using e1
        subst e2
        refine .cons _ _ (ih xs (by simpa using hl) fun j u hu => ?_)
        obtain ⟨m', t', e3, e4⟩ := hg (j + 1) u (by simpa using hu)
        exact ⟨m', t', by simpa using e3, e4⟩
  exact this acc.toList xs (by simpa using hs) fun j v hv => hi j v (by rw [← Array.getElem?_toList]; exact hv)
theorem uL {a : Addr} {ns : List Int} {QL : List Value → Shared → Prop} (hh : A.handled = none) (hS : bM P w s.heap a ns) (hz : ns.length ≤ sizeLine)
    (hQ : ∀ us xs h' d' tk, IntsAre us xs → xs.Perm ns → (∀ b o, s.heap.get? b = some o → h'.get? b = some o) → QL us { s with heap := h', drawn := d', toks := tk }) : wpAny (model P w) A (collect (.ref a)) QL E s := by
  have aU : a < s.heap.objs.size := let ⟨_, _, _, _, ho, _⟩ := hS; Heap.lt_size ho
  have Kv : s.heap.objs.size ≠ a := Nat.ne_of_gt aU
  unfold collect
  refine wpAny_bind (wpAny_runValue (codeAny_builtin F.entry_proto_collect ?_))
  rw [Around.under_plainId F.plain_proto_collect _]
  show wpAny _ A.in1 (newList [] >>= fun l => again (.builtin "list.__iadd__" ⟨[l, .ref a], []⟩)) _ _ s
  refine wpAny_bind (wpAny_newObj_type ?_)
  refine wpAny_pure ⟨plainId_quiet F.plain_list_iadd _, codeAny_builtin F.entry_list_iadd ?_⟩
  rw [Around.under_plainId F.plain_list_iadd _]
  have yL : bM P w (s.heap.push { cls := .type "list", data := .seq ([] : List Value).toArray }) a ns := hS.bT fun o e => Heap.get?_push_of_some _ e
  have T1 : Shared.TypeIs { s with heap := s.heap.push { cls := .type "list", data := .seq ([] : List Value).toArray } } (.ref a) "set" := bM.typeIs (P := P) (w := w) (h := s.heap) (s := { s with heap := _ }) yL
  show wpAny _ A.in1 (Builtin.List.listExtendWith (.ref s.heap.objs.size) (.ref a) (.ref s.heap.objs.size)) _ _ _
  unfold Builtin.List.listExtendWith
  refine wpAny_bind (wpAny_typeOf T1 ?_)
  have h1 : Builtin.List.listSameRef (.ref s.heap.objs.size) (.ref a) = false := by simp [Builtin.List.listSameRef, Kv]
  have h2 : (Value.type "set" == Value.type "list") = false := by decide
  have h3 : (Value.type "set" == Value.type "tuple") = false := by decide
  simp only [h1, h2, h3, Bool.or_false, Bool.false_eq_true, if_false]
  refine wpAny_bind (wF (s := { s with heap := s.heap.push { cls := .type "list", data := .seq ([] : List Value).toArray } }) yL ?_)
  intro I h' d' xs fp St hp hk hI Nq hW mW
  have T2 : Shared.TypeIs { s with heap := h', drawn := d' } (.ref a) "set" := bM.typeIs (P := P) (w := w) (h := s.heap) (s := { s with heap := _, drawn := d' }) (yL.bT fun o e => hk a o e)
  refine wpAny_bind (wpAny_holding (uK T2 ?_))
  show wpAny _ A.in1 (if _ = true then _ else _) _ _ _
  rw [if_pos (by kernel_rfl)]
  show wpAny _ A.in1 (rule "list.extend.makes-room" >>= fun _ => Builtin.List.listTouch (.ref s.heap.objs.size) >>= fun _ =>
    again (.builtin "list.extend.loop" ⟨[.ref s.heap.objs.size, .ref I, .ref s.heap.objs.size], []⟩)) _ _ _
  refine wpAny_bind (wpAny_rule ?_)
  have CI : h'.get? s.heap.objs.size = some { cls := .type "list", data := .seq ([] : List Value).toArray } := hk _ _ (Heap.get?_push_size _ rfl)
  refine wpAny_bind ?_
  show wpAny _ A.in1 (updateSeq s.heap.objs.size (·.push .none) >>= fun _ => updateSeq s.heap.objs.size (·.pop)) _ _ _
  refine wpAny_bind (wpAny_updateSeq CI rfl ?_)
  have CJ := Heap.get?_update_self (Obj.mapSeq (·.push Value.none)) CI rfl
  refine wpAny_updateSeq CJ rfl ?_
  have Jp := Heap.get?_update_self (Obj.mapSeq (·.pop)) CJ rfl
  have Kw : ∀ b o, b ≠ s.heap.objs.size → h'.get? b = some o → ((h'.update s.heap.objs.size (Obj.mapSeq (·.push Value.none))).update s.heap.objs.size (Obj.mapSeq (·.pop))).get? b = some o :=
    fun b o hb e => (Heap.get?_update_other _ _ (Ne.symm hb)).trans ((Heap.get?_update_other _ _ (Ne.symm hb)).trans e)
  have Gw : (s.heap.push { cls := .type "list", data := .seq ([] : List Value).toArray }).objs.size = s.heap.objs.size + 1 := Heap.size_push _ _
  have sN : s.heap.objs.size ∉ fp := fun hm => by
    rcases Nq _ hm with z | z
    · exact Kv z
    · have z' : s.heap.objs.size + 1 ≤ s.heap.objs.size := by rw [← Gw]; exact z
      exact absurd z' (Nat.not_succ_le_self _)
  have W := hW A.in1.in1 (by simp [hh])
  have hl : xs.length ≤ sizeLine := by rw [hp.length_eq]; exact hz
  refine wpAny_pure ⟨plainId_quiet F.plain_extend_loop _, codeAny_extend_loopS (W.of_in1) hl _ sN _ xs.length 0 _ _ _ rfl (Nat.zero_le _) (W.frame 0 ({ s with heap := h', drawn := d' } : Shared) _ s.toks mW (Nat.le_refl _) fun b hb o e => Kw b o (fun h => sN (h ▸ hb)) e) Jp (ItemsOf.nil _) fun s' iq c' hm i5 Gx => ?_⟩
  show wpAny _ A (load s.heap.objs.size >>= _) _ _ s'
  refine wpAny_bind (wpAny_load i5 ?_)
  refine wpAny_pure ?_
  obtain ⟨h2, g2, d2, Nr, os2⟩ := s'
  have eg : g2 = s.gens := hm.gens
  have ed : d2 = d' := hm.drawn
  have eo : os2 = s.os := hm.os
  subst eg; subst ed; subst eo
  refine hQ _ xs h2 _ Nr (ints_of Gx) hp fun b o e => hm.heap b o ?_ (Kw b o (Nat.ne_of_lt (Heap.lt_size e)) (hk b o (Heap.get?_push_of_some _ e)))
  have hb : b < s.heap.objs.size := Heap.lt_size e
  simp only [List.mem_cons, List.not_mem_nil, or_false, not_or]
  refine ⟨Nat.ne_of_lt hb, fun z => ?_⟩
  have z' : s.heap.objs.size + 1 ≤ b := by rw [← Gw, z]; exact hI
  exact absurd (Nat.lt_of_lt_of_le (Nat.lt_succ_of_lt hb) z') (Nat.lt_irrefl _)
end
noncomputable def sortI (ns : List Int) : List Int := ns.mergeSort fun a b => decide (a ≤ b)
theorem sortI_perm (ns : List Int) : (sortI ns).Perm ns := List.mergeSort_perm _ _
theorem sT (ns : List Int) : (sortI ns).Pairwise (· ≤ ·) := by
  have := List.pairwise_mergeSort (le := fun a b : Int => decide (a ≤ b)) (fun a b c h1 h2 => by simp only [decide_eq_true_eq] at *; omega) (fun a b => by simp only [Bool.or_eq_true, decide_eq_true_eq]; omega) ns
  exact this.imp fun h => by simpa using h
theorem uM {a b : List Int} (p : a.Perm b) (ha : a.Pairwise (· ≤ ·)) (hb : b.Pairwise (· ≤ ·)) : a = b := List.Perm.eq_of_pairwise (le := (· ≤ ·)) (fun x y _ _ h1 h2 => Int.le_antisymm h1 h2) ha hb p
theorem Br {ms ns : List Int} (p : ms.Perm ns) (h : ms.Pairwise (· ≤ ·)) : ms = sortI ns := uM (p.trans (sortI_perm ns).symm) h (sT ns)
theorem wG : ∀ {ns : List Int} {us : List Value}, Vals (ns.map V.int) us → IntsAre us ns
  | [], _, .nil => .nil
  | n :: ns, _, .cons r t => by
    obtain ⟨k, rfl⟩ := r
    exact .cons _ _ (wG t)
theorem lh : ∀ {ns : List Int} {us : List Value}, IntsAre us ns → Vals (ns.map V.int) us
  | _, _, .nil => .nil
  | _, _, .cons n t r => .cons ⟨t, rfl⟩ (lh r)
section
variable {P : Program} {w : World} {A : Around} {E : Value → Shared → Prop} {s : Shared}
theorem m7 {T : String} {l : Addr} {vs : List Value} {Q : List Value → Shared → Prop} {o : Obj} {n : Nat} (ho : s.heap.get? l = some o) (hc : o.cls = .type T) (hd : o.data = .seq vs.toArray n) (hT : T = "list" ∨ T = "tuple")
    (h : ∀ h', (∀ b o, s.heap.get? b = some o → h'.get? b = some o) → Q vs { s with heap := h' }) (hsz : vs.length ≤ sizeLine) : wpAny (model P w) A (collect (.ref l)) Q E s := by
  unfold collect
  refine wpAny_bind (wpAny_runValue (codeAny_builtin F.entry_proto_collect ?_))
  rw [Around.under_plainId F.plain_proto_collect _]
  show wpAny _ A.in1 (newList [] >>= fun l' => again (.builtin "list.__iadd__" ⟨[l', .ref l], []⟩)) _ _ s
  refine wpAny_bind (wpAny_newList (wpAny_pure ⟨plainId_quiet F.plain_list_iadd _, codeAny_builtin F.entry_list_iadd ?_⟩))
  rw [Around.under_plainId F.plain_list_iadd _]
  show wpAny _ A.in1 (Builtin.List.listExtendWith (.ref s.heap.objs.size) (.ref l) (.ref s.heap.objs.size)) _ _ { s with heap := s.heap.push (seqObj "list" #[] 0) }
  unfold Builtin.List.listExtendWith
  have gB : (s.heap.push (seqObj "list" #[] 0)).get? l = some o := Heap.get?_push_of_some _ ho
  refine wpAny_bind (wpAny_typeOf (T := T) ⟨o, gB, hc⟩ ?_)
  rw [if_pos (by rcases hT with rfl | rfl <;> simp)]
  refine wpAny_bind (listItems_at gB hd ?_)
  refine wpAny_bind (listItems_at (xs := #[]) (n := 0) (Heap.get?_push_size _ rfl) rfl ?_)
  rw [if_neg (by simp)]
  refine wpAny_bind (listUpdate_at (xs := #[]) (n := 0) (Heap.get?_push_size _ rfl) rfl ?_ (Nat.zero_le _) (by show (#[] ++ vs.toArray).size ≤ sizeLine + 1; simp only [Array.size_append, List.size_toArray, List.length_nil]; omega))
  refine wpAny_pure ?_
  show wpAny (model P w) A (load s.heap.objs.size >>= _) Q E _
  refine wpAny_bind (wpAny_load (get?_update_seq (Heap.get?_push_size _ rfl) _) ?_)
  show wpAny _ _ (pure ((#[] : Array Value) ++ vs.toArray).toList) Q E _
  rw [show ((#[] : Array Value) ++ vs.toArray).toList = vs by simp]
  exact wpAny_pure (h _ fun b o e => (Heap.get?_update_other _ _ (Nat.ne_of_gt (Heap.lt_size e))).trans (Heap.get?_push_of_some _ e))
theorem wH {a : Value} {ns : List Int} {Q : Value → Shared → Prop} (L4 : ∀ QL : List Value → Shared → Prop, (∀ us xs h' d' tk, IntsAre us xs → xs.Perm ns → (∀ b o, s.heap.get? b = some o → h'.get? b = some o) → QL us { s with heap := h', drawn := d', toks := tk }) → wpAny (model P w) A.in1 (collect a) QL E s) (Gy : ns.length < 64)
    (h : ∀ (h1 h' : Heap) d' tk (us : List Value) e, IntsAre us (sortI ns) → (∀ b o, s.heap.get? b = some o → h1.get? b = some o) → (∀ b o, h1.get? b = some o → h'.get? b = some o) → h'.get? h1.objs.size = some { cls := .type "list", data := .seq us.toArray e } → Q (.ref h1.objs.size) { s with heap := h', drawn := d', toks := tk }) :
    wpAny (model P w) A (call (.builtin "sorted") [a]) Q E s := by
  refine Calls.call_function_entry kind_sorted plain_sorted entry_sorted (args_sorted1 _) ?_
  unfold Builtin.«sorted»
  refine wpAny_bind (m := checkCount "sorted" 1 1 _) (wpAny_pure ?_)
  refine wpAny_bind (L4 _ fun us xs h' d' tk hI hp hk => ?_)
  have GA : us.length < 64 := by
    have : us.length = xs.length := (lh hI).length.symm.trans (List.length_map _)
    rw [this, hp.length_eq]
    exact Gy
  refine wpAny_bind (wpAny_newList ?_ (hsz := Nat.le_trans (Nat.le_of_lt GA) (by decide)))
  have xX : (h'.push (seqObj "list" us.toArray 0)).get? h'.objs.size = some (seqObj "list" us.toArray 0) := Heap.get?_push_size _ rfl
  refine wpAny_bind (wpAny_holding (wpAny_call_entry slot_list_sort ⟨_, xX, rfl⟩ entry_list_sort (list_sort_tree xX hI GA fun out Py a1 a2 a3 => ⟨_, rfl, ?_⟩) (args_list_sort _)))
  refine wpAny_pure ⟨_, rfl, ?_⟩
  obtain ⟨e, he⟩ := sortedHeap_at (out := out) xX
  refine h h' _ d' tk out.toList e (by rw [← Br (a2.trans hp) a3]; exact a1) hk (fun b o hb => ?_) (by simpa using he)
  have aU := Heap.lt_size hb
  rw [sortedHeap_old (Nat.ne_of_lt aU) (by rw [Heap.size_push]; exact Nat.lt_succ_of_lt aU)]
  exact Heap.get?_push_of_some _ hb
end
theorem oK {P : Program} {w : World} {h : Heap} {a : Addr} {ns : List Int} (x : bM P w h a ns) : ∃ o, h.get? a = some o := let ⟨o, _, _, _, e, _⟩ := x; ⟨o, e⟩
theorem pO {P : Program} {w : World} {H : Hp} {h : Heap} {a : Addr} {ns : List Int} (x : bM P w h a ns) : ObjOk P w H h a (fA P w a ns) := ⟨x, oK x, fun h1 h2 y k => y.bT k⟩
theorem vn {X : Cx} {pins : List (Addr × Obj)} {σ : St} {H : Hp} {s : Shared} {a : Addr} {ns : List Int} (I : Inv X pins σ H s) (h : H a = some (fA X.prog X.w a ns)) : bM X.prog X.w s.heap a ns := (I.hok a _ h).1
section
variable {P : Program} {w : World} {A : Around} {E : Value → Shared → Prop} {s : Shared}
theorem DX {Q : Value → Shared → Prop} (h : Q (.ref s.heap.objs.size) { s with heap := s.heap.push (fB w) }) : wpAny (model P w) A (newSet (.type "set")) Q E s := by
  unfold newSet setsByText
  refine wpAny_bind (wpAny_bind (wpAny_askSetting (wpAny_pure ?_)))
  dsimp only
  simp only [newObj]
  exact wpAny_bind (wpAny_alloc (wpAny_pure h))
theorem yR {a : Addr} {ns : List Int} {m : Int} {tk : Tok} {Q : Value → Shared → Prop} (hS : bM P w s.heap a ns) (kf : ns.length + 1 < scanBound)
    (h : ∀ h' yN, Heap.SameBut a s.heap h' → bM P w h' a (cE ns m) → Q .none { s with heap := h', toks := yN }) : wpAny (model P w) A (call (.builtin "set.add") [.ref a, .int m tk]) Q E s := by
  refine wpAny_call_entry F.slot_set_add (bM.typeIs (h := s.heap) hS) F.entry_set_add ?_ (F.args_set_add_2 _ _)
  unfold Builtin.«set.add» Builtin.Frozenset.oneOther
  simp only [List.isEmpty_nil, bind_assoc]
  unfold Builtin.Frozenset.addrOf
  refine wpAny_bind (wpAny_pure ?_)
  try dsimp only
  refine wpAny_bind (wpAny_pure ?_)
  try dsimp only
  refine wpAny_bind (qJ hS kf fun h' gm i5 => ?_)
  show wpAny _ _ (ret Value.none) _ _ _
  exact wpAny_pure ⟨_, rfl, h h' _ gm i5⟩
theorem sU (elt target iter : Expr) (ifs : List Expr) (scope : Scope) (pos : Pos) (it acc : Value) (env : Env) :
    compTurn (.SetComp elt [⟨target, iter, ifs, 0⟩] scope pos) 0 it acc env = (do
      standAt iter.pos
      match ← pyNext it with
      | none => pure (.done .next)
      | some v =>
        letOwnedTupleGo target it v
        assign target env v
        let mut ok := true
        for c in ifs do
          if ok then ok ← isTrue c env (eval c env)
        if ok then
          (eval elt env >>= fun v => standAt elt.pos >>= fun _ => call (.builtin "set.add") [acc, v] >>= fun _ => pure ())
        again (.compLoop (.SetComp elt [⟨target, iter, ifs, 0⟩] scope pos) 0 it acc env)) := by rfl
theorem uN {R : Result → Shared → Prop} {elt target iter ifs rest scope pos it acc env}
    (h0 : codeAny (model P w) A (.compLoop (.SetComp elt (⟨target, iter, ifs, 0⟩ :: rest) scope pos) 0 it acc env) R s)
    (h : wpAny (model P w) A (pyIter it) (fun GB s' => codeAny (model P w) A (.compLoop (.SetComp elt (⟨target, iter, ifs, 0⟩ :: rest) scope pos) 0 GB acc env) R s')
      (notedBy (model P w) A env fun x s' => R (.error x) s') s) :
    codeAny (model P w) A (.compStart (.SetComp elt (⟨target, iter, ifs, 0⟩ :: rest) scope pos) 0 it acc env) R s := by
  refine codeAny_of_tree ?_
  show wpAny _ _ ((compStart (.SetComp elt (⟨target, iter, ifs, 0⟩ :: rest) scope pos) 0 it acc env).onRaise (fun x => do noteFrame x env; standAt theWindowsPlace)) _ _ s
  refine wpAny_notedAt ?_
  unfold compStart
  show wpAny _ _ (ask >>= _) _ _ s
  refine wpAny_bind (wpAny_askSetting (wpAny_ite ?_))
  split
  · first
      | exact wpAny_bind (wpAny_pure (wpAny_pure (And.intro rfl h0)))
      | exact wpAny_pure (And.intro rfl h0)
  · first
      | exact wpAny_bind (wpAny_rule (wpAny_bind (wpAny_standAt (wpAny_bind (wpAny_mono h (fun GB s' h' => wpAny_pure (And.intro rfl h')) fun _ _ x => x)))))
      | (refine wpAny_bind (wpAny_rule ?_); show wpAny _ _ (standAt iter.pos >>= _) _ _ s; exact wpAny_bind (wpAny_standAt (wpAny_bind (wpAny_mono h (fun GB s' h' => wpAny_pure (And.intro rfl h')) fun _ _ x => x))))
end
section
variable {X : Cx}
noncomputable def yS (X : Cx) (J : It) (g : TG) (tt : TT) (te : TE) (D : Addr) (Q : VK) (W : Nat → Nat → St → Hp → Prop) : Prop := ∀ i m τ H, W i m τ H →
  (J.stop i H ∧ Q (.ref D) H) ∨ (J.go i H ∧ ∀ x H', J.yld i H x H' → g x τ H' fun aC H2 => tt aC H2 fun b H3 => if b = true then te aC H3 fun y H4 => ∃ k ns m', y = .int k ∧ H4 D = some (fA X.prog X.w D ns) ∧ ns.length + 1 < scanBound ∧ m' < m ∧ W (i + 1) m' aC (upd H4 D (fA X.prog X.w D (cE ns k))) else ∃ m', m' < m ∧ W (i + 1) m' aC H3)
noncomputable def yT (X : Cx) (tn : Nat) (idx : List Nat) (wi : TI) (g : TG) (tt : TT) (te : TE) : TE := fun σ H Q => wi σ H fun J H1 => ∀ D, H1 D = none → ∃ W : Nat → Nat → St → Hp → Prop, (∃ m, W 0 m (bh tn idx σ) (upd H1 D (fA X.prog X.w D []))) ∧ yS X J g tt te D Q W
theorem wI {pins : List (Addr × Obj)} {σ : St} {H2 : Hp} {s2 : Shared} {tg elt iter : Expr} {ifs : List Expr} {scope : Scope} {pos : Pos} {N' : List Str} {tn : Nat} {idx : List Nat} {g : TG} {tt : TT} {te : TE} {it : Addr} {fp : List Addr} {cD : Nat → Heap → Prop} {J : It}
    {cl : List (Str × Addr)} {E : Value → Shared → Prop} {RR : Value → Addr → Result → Shared → Prop} {Q : VK}
    (hc : X.calm = true) (B : aF X.N X.env.scope scope N' tn idx)
    (hg : Blk X N' scope fun Y => PG Y tg g) (ht : Blk X N' scope fun Y => iX Y ifs tt) (he : Blk X N' scope fun Y => PE Y elt te)
    (I : Inv X pins σ H2 s2) (T : Turn X.prog X.w X.K tg J fp it cD) (st : cD 0 s2.heap) (f2 : ∀ b ∈ fp, cY X pins H2 b)
    (cO : ∀ n c, cl.lookup n = some c → X.env.cells.lookup n = some c) (ez : ∀ n, (n, NameKind.free) ∈ scope.names → ∃ c, cl.lookup n = some c)
    (hq : ∀ D, H2 D = none → ∃ W : Nat → Nat → St → Hp → Prop, (∃ m, W 0 m (bh tn idx σ) (upd H2 D (fA X.prog X.w D []))) ∧ yS X J g tt te D Q W)
    (yB : ∀ D C m s' H', Inv X pins σ H' s' → cY X pins H' C → s'.heap.Ns C m → Q (.ref D) H' → RR (.ref D) C (.ok .next) s') :
    wpAny (model X.prog X.w) X.A (newSet (.type "set")) (fun acc dG => wpAny (model X.prog X.w) X.A (newFunctionEnv scope X.env.globals cl [] X.env.qual none .none (some X.env)) (fun k6 su =>
      codeAny (model X.prog X.w) X.A (.compStart (.SetComp elt [⟨tg, iter, ifs, 0⟩] scope pos) 0 (.ref it) acc { k6 with scope := relabel scope X.env }) (RR acc k6.locals) su) E dG) E s2 := by
  obtain ⟨b1, b2, b3, b4⟩ := id B
  refine DX (wpAny_newFunctionEnv (fun y hy => (b2 y hy).1) (by intro y hy; simp at hy) (fun di gf gh => ?_) b1)
  dsimp only at gf gh ⊢
  generalize hG : s2.heap.push (fB X.w) = G at gf gh ⊢
  have hC : G.objs.size = s2.heap.objs.size + 1 := by rw [← hG, Heap.size_push]
  have sv : s2.heap.objs.size ≠ G.objs.size := by rw [hC]; exact Nat.ne_of_lt (Nat.lt_succ_self _)
  have gJ : s2.heap.objs.size ≤ G.objs.size := by rw [hC]; exact Nat.le_succ _
  have below : ∀ b, b < s2.heap.objs.size → b ≠ G.objs.size := fun b hb => by rw [hC]; exact Nat.ne_of_lt (Nat.lt_succ_of_lt hb)
  have old : ∀ b o, s2.heap.get? b = some o → di.get? b = some o := fun b o e => gh.extBut b o (below b (Heap.lt_size e)) (Heap.get?_push_of_some _ (hG ▸ Heap.get?_push_of_some _ e))
  have yC : bM X.prog X.w di s2.heap.objs.size [] := by
    have q : bM X.prog X.w G s2.heap.objs.size [] := hG ▸ vi
    exact q.bT fun o e => gh.extBut _ _ sv (Heap.get?_push_of_some _ e)
  have qF : H2 s2.heap.objs.size = none := I.hok.fresh (Nat.le_refl _)
  have oy : upd H2 s2.heap.objs.size (fA X.prog X.w s2.heap.objs.size []) G.objs.size = none := by rw [ae (Ne.symm sv)]; exact I.hok.fresh gJ
  have sx : cp X.prog X.w (upd H2 s2.heap.objs.size (fA X.prog X.w s2.heap.objs.size [])) di := I.hok.laid old (Nat.le_refl _) (pO yC)
  have ix : ∀ b ∈ fp, b < s2.heap.objs.size := fun b hb => let ⟨o, e, _⟩ := T.obj _ _ st b hb; Heap.lt_size e
  obtain ⟨W, ⟨m0, w0⟩, turn⟩ := hq s2.heap.objs.size qF
  have I1 : Inv (gD X N' scope cl G.objs.size s2 H2 fp) [] (bh tn idx σ) (upd H2 s2.heap.objs.size (fA X.prog X.w s2.heap.objs.size [])) { s2 with heap := di, toks := s2.toks + ([] : List (Str × Value)).length } := by
    refine k4 (g' := s2.gens) (m0 := fun x => ([] : List (Str × Value)).reverse.lookup x) I b1 rfl rfl cO (fun x hx => ?_) (fun z => I.ok.hd z) I.ok.frames (.inl rfl) gJ f2 ix (Un.laid old (Nat.le_refl _) qF) sx oy old gf (fun i x v e1 e2 e3 => ?_) (B.len σ) I.bare.self
    · have gE : (relabel scope X.env).names.lookup x = some .cell ∨ (relabel scope X.env).names.lookup x = some .free := hx
      rw [c0] at gE
      cases q : scope.names.lookup x with
      | none => rw [q] at gE; rcases gE with z | z <;> cases z
      | some k0 =>
        have hm := PySem.mem_of_lookup q
        rw [q] at gE
        by_cases hk : k0 = .free
        · subst hk; exact ez x hm
        · have nk : (k0 == NameKind.free) = false := by simpa using hk
          have nc := (b2 _ hm).1
          simp only [Option.map_some, nk, Bool.false_and, Bool.false_eq_true, if_false] at gE
          rcases gE with z | z
          · exact absurd (Option.some.inj z) nc
          · exact absurd (Option.some.inj z) hk
    · obtain ⟨fr, j, e4, e5⟩ := B.at e1 e2
      have kx := (b2 _ (PySem.mem_of_lookup fr)).2.2 rfl
      refine ⟨?_, .inr kx, kx, j, e4, e5⟩
      show (relabel scope X.env).names.lookup x = some .cell ∨ (relabel scope X.env).names.lookup x = some .free
      rw [c0, fr]
      simp only [Option.map_some]
      split
      · exact .inl rfl
      · exact .inr rfl
  have stat : ∀ {H' : Hp}, (∀ b ∈ fp, H' b = none) → ∀ b ∈ fp, cY (gD X N' scope cl G.objs.size s2 H2 fp) [] H' b := fun hn b hb => by
    refine ⟨hn b hb, below b (ix b hb), fun z => ?_, .inl hb, fun x c e => (f2 b hb).2.2.2.2.1 x c (cO x c e), fun p hp => absurd (show p ∈ ([] : List (Addr × Obj)) from hp) (by simp)⟩
    rcases List.mem_cons.mp (I.eC b z) with q | q
    · exact (f2 b hb).2.1 q
    · exact (f2 b hb).2.2.1 q
  have loop : ∀ dG : Shared, dG = { s2 with heap := di, toks := s2.toks + ([] : List (Str × Value)).length } →
      codeAny (model X.prog X.w) X.A (.compLoop (.SetComp elt [⟨tg, iter, ifs, 0⟩] scope pos) 0 (.ref it) (.ref s2.heap.objs.size) (compEnvC scope cl G.objs.size X.env))
        (RR (.ref s2.heap.objs.size) G.objs.size) dG := by
    rintro dG rfl
    refine codeAny_loop rfl (fun n s' => ∃ i τ H', Inv (gD X N' scope cl G.objs.size s2 H2 fp) [] τ H' s' ∧ cD i s'.heap ∧ (∀ b ∈ fp, H' b = none) ∧ W i n τ H') (fun n s hI => ?_) m0
      ⟨0, _, _, I1, T.keep _ _ _ st fun b _ o e => old b o e, fun b hb => by rw [ae (Nat.ne_of_lt (ix b hb))]; exact (f2 b hb).1, w0⟩
    show wpAny _ X.A ((compTurn (.SetComp elt [⟨tg, iter, ifs, 0⟩] scope pos) 0 (.ref it) (.ref s2.heap.objs.size) (compEnvC scope cl G.objs.size X.env)).onRaise (fun x => do noteFrame x (compEnvC scope cl G.objs.size X.env); theTreesLotGoes x)) _ _ s
    refine wpAny_noted ?_
    rw [sU]
    obtain ⟨i, τ, H3, I3, jv, kU, w3⟩ := hI
    rcases turn i n τ H3 w3 with ⟨stop, qn⟩ | ⟨go, step⟩
    · refine wpAny_bind (wpAny_standAt (wpAny_bind (wpAny_mono (T.done (gD X N' scope cl G.objs.size s2 H2 fp) rfl rfl rfl hc i [] s τ H3 (fun _ _ => False) I3 (stat kU) jv stop) (fun r s4 ⟨hr, I4⟩ => ?_) fun _ _ z => z.elim)))
      subst hr
      refine wpAny_pure ?_
      have J2 : Inv X pins σ H3 s4 := I.oe I4.os I4.base I4.hok I4.bare fun b hb => ⟨(f2 b hb).2.2.2.1, (f2 b hb).2.1, (f2 b hb).2.2.2.2.1, (f2 b hb).2.2.2.2.2⟩
      obtain ⟨mm, hm, _⟩ := I4.loc
      exact yB _ _ mm s4 H3 J2 (I.jO gJ I4.free) hm qn
    · refine wpAny_bind (wpAny_standAt (wpAny_bind (wpAny_mono (T.item (gD X N' scope cl G.objs.size s2 H2 fp) rfl rfl rfl hc i [] s τ H3 (fun _ _ => False) I3 (stat kU) jv go) (fun r s4 ⟨u, hr, h4⟩ => ?_) fun _ _ z => z.elim)))
      subst hr
      refine wpAny_bind (wpAny_mono h4 (fun _ s5 ⟨x, H5, I5, r5, y5, f9, oo⟩ => ?_) fun _ _ z => z.elim)
      have oq := I5.pinned (stat oo) (T.obj _ _ f9)
      have again : ∀ {g8 : St} {H7 : Hp} {s7 : Shared}, Inv (gD X N' scope cl G.objs.size s2 H2 fp) ([] ++ g6 fp s5.heap) g8 H7 s7 → (∃ m', m' < n ∧ W (i + 1) m' g8 H7) →
          ∃ m, m < n ∧ ∃ i τ H', Inv (gD X N' scope cl G.objs.size s2 H2 fp) [] τ H' s7 ∧ cD i s7.heap ∧ (∀ b ∈ fp, H' b = none) ∧ W i m τ H' := fun {g8 H7 s7} I7 n7 => by
        obtain ⟨m', hm, w7⟩ := n7
        refine ⟨m', hm, i + 1, g8, H7, I7.dR, T.keep _ _ _ f9 fun b hb o e => (I7.pin (b, o) (List.mem_append_right _ (List.mem_append_right _ (cA hb e)))).1, fun b hb => ?_, w7⟩
        obtain ⟨o, e, d⟩ := T.obj _ _ f9 b hb
        exact (I7.pin (b, o) (List.mem_append_right _ (List.mem_append_right _ (cA hb e)))).2.1
      refine wpAny_bind (wpAny_mono (hg cl G.objs.size s2 H2 fp _ s5 τ H5 x u _ oq r5 (step x H5 y5)) (fun _ s6 ⟨iy, H6, I6, q6⟩ => ?_) fun _ _ z => z.elim)
      refine wpAny_bind (wpAny_mono (ht cl G.objs.size s2 H2 fp _ s6 iy H6 _ I6 q6) (fun ok s7 ⟨H7, I7, q7⟩ => ?_) fun _ _ z => z.elim)
      cases ok with
      | false => exact wpAny_pure ⟨rfl, again I7 q7⟩
      | true =>
        refine wpAny_bind (wpAny_bind (wpAny_mono (he cl G.objs.size s2 H2 fp _ s7 iy H7 _ I7 q7) (fun yv s8 ⟨y, H8, I8, r8, q8⟩ => ?_) fun _ _ z => z.elim))
        obtain ⟨m, ns, m', ey, hD, hsz, k7, w8⟩ := q8
        subst ey
        obtain ⟨tk, rfl⟩ := r8
        refine wpAny_bind (wpAny_standAt (wpAny_bind (yR (vn (X := gD X N' scope cl G.objs.size s2 H2 fp) I8 hD) hsz fun h' yN gm hM => ?_)))
        have I9 := I8.write (x := s2.heap.objs.size) (e := s2.heap.objs.size) (t' := yN) (by rw [hD]; exact trivial) (.inl rfl) (fun b u hb hu => (gm.2 b hb).trans hu) (oK hM) (pO hM)
        exact wpAny_pure (wpAny_pure ⟨rfl, again I9 ⟨m', k7, w8⟩⟩)
  exact uN (loop _ rfl) (T.self _ 0 _ _ _ (T.keep _ _ _ st fun b _ o e => old b o e) (loop _ rfl))
variable {tg elt iter : Expr} {ifs : List Expr} {scope : Scope} {pos : Pos} {N' : List Str} {tn : Nat} {idx : List Nat} {wi : TI} {g : TG} {tt : TT} {te : TE}
theorem wJ (hc : X.calm = true) (B : aF X.N X.env.scope scope N' tn idx) (hi : PI X tg iter wi)
    (hg : Blk X N' scope fun Y => PG Y tg g) (ht : Blk X N' scope fun Y => iX Y ifs tt) (he : Blk X N' scope fun Y => PE Y elt te)
    (hs : ∀ x, foldedSetIterable iter X.env x = pure x := by intro _; rfl) : PE X (.SetComp elt [⟨tg, iter, ifs, 0⟩] scope pos) (yT X tn idx wi g tt te) := by
  refine ⟨?_⟩
  intro pins s σ H Q I h
  obtain ⟨cl, ft, cO, ez⟩ := eT (scope := scope) (env := X.env) fun n hn => I.ok.has n ((B.2.1 _ hn).2.2 rfl)
  rw [arm_eval_SetComp]
  refine wpAny_comprehension_free (use := none) rfl hs ft B.1 (fun y hy => (B.2.1 y hy).2.1) (wpAny_mono (hi pins s σ H _ I h) (fun xv s1 h1 => wpAny_mono h1 (fun sg s2 h2 => ?_) fun _ _ z => z) fun _ _ z => z)
  obtain ⟨it, fp, cD, J, H2, e, I2, T, kS, f2, q2⟩ := h2
  subst e
  refine wI (RR := fun acc C => compPost (model X.prog X.w) X.A X.xe none (EP X pins σ Q) acc C) hc B hg ht he I2 T kS f2 cO ez q2 fun D C m s' H' J2 fC hm q => ?_
  exact ⟨m, hm, fun h' mY => ⟨.ref D, H', fC.turn J2 mY, rfl, q⟩⟩
end
inductive Dt where
  | ao | bl (b : Bool) | int (i : Int) | str (x : Str) | lst (xs : List Dt) | tup (xs : List Dt)
inductive c5 (H : Hp) : V → Dt → Prop where
  | ao : c5 H .ao .ao
  | bl (b : Bool) : c5 H (.bl b) (.bl b)
  | int (i : Int) : c5 H (.int i) (.int i)
  | str (x : Str) : c5 H (.str x) (.str x)
  | lst {a : Addr} {xs : List V} {ds : List Dt} (e : H a = some (.lst xs)) (hl : xs.length = ds.length) (h : ∀ (i : Nat) (x : V) (d : Dt), xs[i]? = some x → ds[i]? = some d → c5 H x d) : c5 H (.ref a) (.lst ds)
  | tup {a : Addr} {xs : List V} {ds : List Dt} (e : H a = some (.tup xs)) (hl : xs.length = ds.length) (h : ∀ (i : Nat) (x : V) (d : Dt), xs[i]? = some x → ds[i]? = some d → c5 H x d) : c5 H (.ref a) (.tup ds)
mutual
noncomputable def bR : Dt → Dt → Bool
  | .ao, .ao => true
  | .bl a, .bl b => a == b
  | .bl a, .int b => (if a then 1 else 0) == b
  | .int a, .bl b => a == (if b then 1 else 0)
  | .int a, .int b => a == b
  | .str a, .str b => a == b
  | .lst xs, .lst ys => fh xs ys
  | .tup xs, .tup ys => fh xs ys
  | _, _ => false
noncomputable def fh : List Dt → List Dt → Bool
  | [], [] => true
  | x :: xs, y :: ys => bR x y && fh xs ys
  | _, _ => false
end
mutual
theorem kg : ∀ d : Dt, bR d d = true
  | .ao => by simp [bR]
  | .bl b => by simp [bR]
  | .int i => by simp [bR]
  | .str x => by simp [bR]
  | .lst xs => by simp only [bR]; exact lj xs
  | .tup xs => by simp only [bR]; exact lj xs
theorem lj : ∀ ds : List Dt, fh ds ds = true
  | [] => by simp [fh]
  | d :: ds => by simp only [fh]; rw [kg d, lj ds]; rfl
end
theorem dW : ∀ (xs ys : List Dt), fh xs ys = ((List.range (min xs.length ys.length)).all (fun j => bR (xs.getD j .ao) (ys.getD j .ao)) && xs.length == ys.length)
  | [], [] => by simp [fh]
  | [], _ :: _ => by simp [fh]
  | _ :: _, [] => by simp [fh]
  | x :: xs, y :: ys => by
    rw [fh, dW xs ys]
    have e : min (x :: xs).length (y :: ys).length = min xs.length ys.length + 1 := by simp [Nat.succ_min_succ]
    rw [e, List.range_succ_eq_map, List.all_cons, List.all_map]
    have e2 : ((x :: xs).length == (y :: ys).length) = (xs.length == ys.length) := by simp
    rw [e2, Bool.and_assoc]
    rfl
theorem c5.inj {H : Hp} {v : V} {d : Dt} (h : c5 H v d) : ∀ {d' : Dt}, c5 H v d' → d = d' := by
  induction h with
  | ao => intro d' h'; cases h'; rfl
  | bl b => intro d' h'; cases h'; rfl
  | int i => intro d' h'; cases h'; rfl
  | str x => intro d' h'; cases h'; rfl
  | lst e hl h ih =>
    intro d' h'
    cases h' with
    | lst e' GC h' =>
      rw [e] at e'; cases e'
      congr 1
      refine List.ext_getElem? fun i => ?_
      rename_i xs ds fR
      by_cases hi : i < xs.length
      · rw [List.getElem?_eq_getElem (by omega), List.getElem?_eq_getElem (by omega)]
        exact congrArg some (ih i _ _ (List.getElem?_eq_getElem hi) (List.getElem?_eq_getElem (by omega)) (h' i _ _ (List.getElem?_eq_getElem hi) (List.getElem?_eq_getElem (by omega))))
      · rw [List.getElem?_eq_none (by omega), List.getElem?_eq_none (by omega)]
    | tup e' GC h' => rw [e] at e'; cases e'
  | tup e hl h ih =>
    intro d' h'
    cases h' with
    | lst e' GC h' => rw [e] at e'; cases e'
    | tup e' GC h' =>
      rw [e] at e'; cases e'
      congr 1
      refine List.ext_getElem? fun i => ?_
      rename_i xs ds fR
      by_cases hi : i < xs.length
      · rw [List.getElem?_eq_getElem (by omega), List.getElem?_eq_getElem (by omega)]
        exact congrArg some (ih i _ _ (List.getElem?_eq_getElem hi) (List.getElem?_eq_getElem (by omega)) (h' i _ _ (List.getElem?_eq_getElem hi) (List.getElem?_eq_getElem (by omega))))
      · rw [List.getElem?_eq_none (by omega), List.getElem?_eq_none (by omega)]
mutual
noncomputable def fS : Dt → Nat
  | .lst xs => fi xs + 1
  | .tup xs => fi xs + 1
  | _ => 0
noncomputable def fi : List Dt → Nat
  | [] => 0
  | x :: xs => max (fS x) (fi xs)
end
theorem i7 : ∀ {ds : List Dt} {i : Nat} {d : Dt}, ds[i]? = some d → fS d ≤ fi ds
  | [], _, _, h => by simp at h
  | x :: xs, 0, d, h => by
    simp at h; subst h
    rw [fi]; exact Nat.le_max_left _ _
  | x :: xs, i + 1, d, h => by
    rw [fi]
    exact Nat.le_trans (i7 (i := i) (by simpa using h)) (Nat.le_max_right _ _)
section
variable {X : Cx} {pins : List (Addr × Obj)} {σ : St} {H : Hp} {s : Shared}
theorem Inv.lists (I : Inv X pins σ H s) {a : Addr} {xs : List V} (h : H a = some (.lst xs)) : ∃ its : List Value, Vals xs its ∧ s.heap.IsList a its.toArray := by
  obtain ⟨its, rv, p, _⟩ := I.list (bH.of h)
  exact ⟨its, rv, p.isList⟩
theorem Inv.tups (I : Inv X pins σ H s) {a : Addr} {xs : List V} (h : H a = some (.tup xs)) : ∃ its : List Value, Vals xs its ∧ s.heap.IsTuple a its.toArray := by
  obtain ⟨its, rv, p, _⟩ := I.tuple (cu.of h)
  exact ⟨its, rv, p⟩
theorem ll (I : Inv X pins σ H s) {x y : V} {d : Dt} (hx : c5 H x d) : ∀ {e : Dt} {u v : Value} {A : Around}, c5 H y e → RelV x u → RelV y v → A.units + fS d < cLine → SeqAt.EqAt A s u v (bR d e) := by
  have lists := fun {a : Addr} {xs : List V} (h : H a = some (.lst xs)) => I.lists h
  have tups := fun {a : Addr} {xs : List V} (h : H a = some (.tup xs)) => I.tups h
  induction hx generalizing y with
  | ao =>
    intro e u v A hy rx ry hu
    have aP : A.units < cLine := by omega
    cases rx
    cases hy with
    | ao => cases ry; exact SeqAt.EqAt.same _
    | bl b => cases ry; exact SeqAt.EqAt.none_bool _
    | int i => obtain ⟨t, rfl⟩ := ry; exact SeqAt.EqAt.none_int _ _
    | str z => obtain ⟨t, rfl⟩ := ry; exact SeqAt.EqAt.none_str _ _
    | lst e2 _ _ => cases ry; obtain ⟨_, _, p⟩ := lists e2; exact SeqAt.EqAt.none_list p aP
    | tup e2 _ _ => cases ry; obtain ⟨_, _, p⟩ := tups e2; exact SeqAt.EqAt.none_tuple p aP
  | bl a =>
    intro e u v A hy rx ry hu
    have aP : A.units < cLine := by omega
    cases rx
    cases hy with
    | ao => cases ry; exact SeqAt.EqAt.bool_none _
    | bl b => cases ry; exact SeqAt.EqAt.bool_bool _ _
    | int i => obtain ⟨t, rfl⟩ := ry; exact SeqAt.EqAt.bool_int _ _ _
    | str z => obtain ⟨t, rfl⟩ := ry; exact SeqAt.EqAt.bool_str _ _ _
    | lst e2 _ _ => cases ry; obtain ⟨_, _, p⟩ := lists e2; exact SeqAt.EqAt.bool_list _ p aP
    | tup e2 _ _ => cases ry; obtain ⟨_, _, p⟩ := tups e2; exact SeqAt.EqAt.bool_tuple _ p aP
  | int a =>
    intro e u v A hy rx ry hu
    have aP : A.units < cLine := by omega
    obtain ⟨ta, rfl⟩ := rx
    cases hy with
    | ao => cases ry; exact SeqAt.EqAt.int_none _ _
    | bl b => cases ry; exact SeqAt.EqAt.int_bool _ _ _
    | int i => obtain ⟨t, rfl⟩ := ry; exact SeqAt.EqAt.int_int _ _ _ _
    | str z => obtain ⟨t, rfl⟩ := ry; exact SeqAt.EqAt.int_str _ _ _ _
    | lst e2 _ _ => cases ry; obtain ⟨_, _, p⟩ := lists e2; exact SeqAt.EqAt.int_list _ _ p aP
    | tup e2 _ _ => cases ry; obtain ⟨_, _, p⟩ := tups e2; exact SeqAt.EqAt.int_tuple _ _ p aP
  | str a =>
    intro e u v A hy rx ry hu
    have aP : A.units < cLine := by omega
    obtain ⟨ta, rfl⟩ := rx
    cases hy with
    | ao => cases ry; exact SeqAt.EqAt.str_none _ _
    | bl b => cases ry; exact SeqAt.EqAt.str_bool _ _ _
    | int i => obtain ⟨t, rfl⟩ := ry; exact SeqAt.EqAt.str_int _ _ _ _
    | str z => obtain ⟨t, rfl⟩ := ry; exact SeqAt.EqAt.str_str _ _ _ _
    | lst e2 _ _ => cases ry; obtain ⟨_, _, p⟩ := lists e2; exact SeqAt.EqAt.str_list _ _ p aP
    | tup e2 _ _ => cases ry; obtain ⟨_, _, p⟩ := tups e2; exact SeqAt.EqAt.str_tuple _ _ p aP
  | lst e1 jZ h1 ih =>
    rename_i a xs ds
    intro e u v A hy rx ry hu
    have aP : A.units < cLine := by omega
    have yU : A.units + fi ds + 1 < cLine := by rw [fS] at hu; omega
    cases rx
    obtain ⟨its, rv, p⟩ := lists e1
    cases hy with
    | ao => cases ry; exact SeqAt.EqAt.list_none p aP
    | bl b => cases ry; exact SeqAt.EqAt.list_bool _ p aP
    | int i => obtain ⟨t, rfl⟩ := ry; exact SeqAt.EqAt.list_int _ _ p aP
    | str z => obtain ⟨t, rfl⟩ := ry; exact SeqAt.EqAt.list_str _ _ p aP
    | lst e2 gC h2 =>
      rename_i b ys es
      cases ry
      by_cases yV : a = b
      · subst yV
        have := (c5.lst e1 jZ h1).inj (c5.lst e2 gC h2)
        cases this
        rw [kg]
        exact SeqAt.EqAt.same _
      · obtain ⟨ck, hV, p2⟩ := lists e2
        have l1 := rv.length
        have l2 := hV.length
        have at_ : ∀ j (g1 : j < its.toArray.size) (g2 : j < ck.toArray.size), SeqAt.EqAt A.in1 s its.toArray[j] ck.toArray[j] (bR (ds.getD j .ao) (es.getD j .ao)) := fun j g1 g2 => by
          have hZ : j < xs.length := by rw [l1]; simpa using g1
          have h8 : j < ys.length := by rw [l2]; simpa using g2
          have r1 := cg rv g1
          have r2 := cg hV g2
          rw [List.getD_eq_getElem?_getD, List.getElem?_eq_getElem hZ] at r1
          rw [List.getD_eq_getElem?_getD, List.getElem?_eq_getElem h8] at r2
          have d1 : ds[j]? = some ds[j] := List.getElem?_eq_getElem (by omega)
          have d2 : es[j]? = some es[j] := List.getElem?_eq_getElem (by omega)
          rw [List.getD_eq_getElem?_getD, List.getD_eq_getElem?_getD, d1, d2]
          have := i7 d1
          exact ih j _ _ (List.getElem?_eq_getElem hZ) d1 (h2 j _ _ (List.getElem?_eq_getElem h8) d2) r1 r2 (by show A.units + 1 + _ < cLine; omega)
        refine SeqAt.EqAt.of_refs yV ?_
        rw [bR, dW]
        by_cases hsz : ds.length = es.length
        · have q := SeqAt.RcAt.lists p p2 (by simp only [List.size_toArray]; omega) aP at_
          have z : (ds.length == es.length) = true := by simpa using hsz
          rw [z, Bool.and_true, ← hsz, Nat.min_self]
          rw [List.size_toArray, ← l1, jZ] at q
          exact q
        · have z : (ds.length == es.length) = false := by simpa using hsz
          rw [z, Bool.and_false]
          exact SeqAt.RcAt.lists_lengths p p2 (by simp only [List.size_toArray]; simpa [bne_iff_ne] using (show its.length ≠ ck.length by omega)) aP
    | tup e2 gC h2 => cases ry; obtain ⟨_, _, p2⟩ := tups e2; exact SeqAt.EqAt.list_tuple p p2 aP
  | tup e1 jZ h1 ih =>
    rename_i a xs ds
    intro e u v A hy rx ry hu
    have aP : A.units < cLine := by omega
    have yU : A.units + fi ds + 1 < cLine := by rw [fS] at hu; omega
    cases rx
    obtain ⟨its, rv, p⟩ := tups e1
    cases hy with
    | ao => cases ry; exact SeqAt.EqAt.tuple_none p aP
    | bl b => cases ry; exact SeqAt.EqAt.tuple_bool _ p aP
    | int i => obtain ⟨t, rfl⟩ := ry; exact SeqAt.EqAt.tuple_int _ _ p aP
    | str z => obtain ⟨t, rfl⟩ := ry; exact SeqAt.EqAt.tuple_str _ _ p aP
    | lst e2 gC h2 => cases ry; obtain ⟨_, _, p2⟩ := lists e2; exact SeqAt.EqAt.tuple_list p p2 aP
    | tup e2 gC h2 =>
      rename_i b ys es
      cases ry
      by_cases yV : a = b
      · subst yV
        have := (c5.tup e1 jZ h1).inj (c5.tup e2 gC h2)
        cases this
        rw [kg]
        exact SeqAt.EqAt.same _
      · obtain ⟨ck, hV, p2⟩ := tups e2
        have l1 := rv.length
        have l2 := hV.length
        have at_ : ∀ j (g1 : j < its.toArray.size) (g2 : j < ck.toArray.size), SeqAt.EqAt A.in1 s its.toArray[j] ck.toArray[j] (bR (ds.getD j .ao) (es.getD j .ao)) := fun j g1 g2 => by
          have hZ : j < xs.length := by rw [l1]; simpa using g1
          have h8 : j < ys.length := by rw [l2]; simpa using g2
          have r1 := cg rv g1
          have r2 := cg hV g2
          rw [List.getD_eq_getElem?_getD, List.getElem?_eq_getElem hZ] at r1
          rw [List.getD_eq_getElem?_getD, List.getElem?_eq_getElem h8] at r2
          have d1 : ds[j]? = some ds[j] := List.getElem?_eq_getElem (by omega)
          have d2 : es[j]? = some es[j] := List.getElem?_eq_getElem (by omega)
          rw [List.getD_eq_getElem?_getD, List.getD_eq_getElem?_getD, d1, d2]
          have := i7 d1
          exact ih j _ _ (List.getElem?_eq_getElem hZ) d1 (h2 j _ _ (List.getElem?_eq_getElem h8) d2) r1 r2 (by show A.units + 1 + _ < cLine; omega)
        refine SeqAt.EqAt.of_refs yV ?_
        rw [bR, dW]
        have q := SeqAt.RcAt.tuples p p2 aP at_
        rw [List.size_toArray, List.size_toArray, ← l1, ← l2, jZ, gC] at q
        exact q
end
section
variable {X : Cx} {pins : List (Addr × Obj)} {σ : St} {H : Hp} {s : Shared}
theorem GD (I : Inv X pins σ H s) {x y : V} {d e : Dt} {u v : Value} {A : Around} (hx : c5 H x d) (hy : c5 H y e) (rx : RelV x u) (ry : RelV y v) (hu : A.units + fS d < cLine) : SeqAt.RcAt A s u v (bR d e) := by
  have aP : A.units < cLine := by omega
  have lists := fun {a : Addr} {xs : List V} (h : H a = some (.lst xs)) => I.lists h
  have tups := fun {a : Addr} {xs : List V} (h : H a = some (.tup xs)) => I.tups h
  cases hx with
  | ao =>
    cases rx
    cases hy with
    | ao => cases ry; exact SeqAt.RcAt.none_none
    | bl b => cases ry; exact SeqAt.RcAt.none_bool _
    | int b => obtain ⟨t, rfl⟩ := ry; exact SeqAt.RcAt.none_int _ _
    | str b => obtain ⟨t, rfl⟩ := ry; exact SeqAt.RcAt.none_str _ _
    | lst e2 _ _ => cases ry; obtain ⟨_, _, p⟩ := lists e2; exact SeqAt.RcAt.none_list p aP
    | tup e2 _ _ => cases ry; obtain ⟨_, _, p⟩ := tups e2; exact SeqAt.RcAt.none_tuple p aP
  | bl a =>
    cases rx
    cases hy with
    | ao => cases ry; exact SeqAt.RcAt.bool_none _
    | bl b => cases ry; exact SeqAt.RcAt.bool_bool _ _
    | int b => obtain ⟨t, rfl⟩ := ry; exact SeqAt.RcAt.bool_int _ _ _
    | str b => obtain ⟨t, rfl⟩ := ry; exact SeqAt.RcAt.bool_str _ _ _
    | lst e2 _ _ => cases ry; obtain ⟨_, _, p⟩ := lists e2; exact SeqAt.RcAt.bool_list _ p aP
    | tup e2 _ _ => cases ry; obtain ⟨_, _, p⟩ := tups e2; exact SeqAt.RcAt.bool_tuple _ p aP
  | int a =>
    obtain ⟨ta, rfl⟩ := rx
    cases hy with
    | ao => cases ry; exact SeqAt.RcAt.int_none _ _
    | bl b => cases ry; exact SeqAt.RcAt.int_bool _ _ _
    | int b => obtain ⟨t, rfl⟩ := ry; exact SeqAt.RcAt.int_int _ _ _ _
    | str b => obtain ⟨t, rfl⟩ := ry; exact SeqAt.RcAt.int_str _ _ _ _
    | lst e2 _ _ => cases ry; obtain ⟨_, _, p⟩ := lists e2; exact SeqAt.RcAt.int_list _ _ p aP
    | tup e2 _ _ => cases ry; obtain ⟨_, _, p⟩ := tups e2; exact SeqAt.RcAt.int_tuple _ _ p aP
  | str a =>
    obtain ⟨ta, rfl⟩ := rx
    cases hy with
    | ao => cases ry; exact SeqAt.RcAt.str_none _ _
    | bl b => cases ry; exact SeqAt.RcAt.str_bool _ _ _
    | int b => obtain ⟨t, rfl⟩ := ry; exact SeqAt.RcAt.str_int _ _ _ _
    | str b => obtain ⟨t, rfl⟩ := ry; exact SeqAt.RcAt.str_str _ _ _ _
    | lst e2 _ _ => cases ry; obtain ⟨_, _, p⟩ := lists e2; exact SeqAt.RcAt.str_list _ _ p aP
    | tup e2 _ _ => cases ry; obtain ⟨_, _, p⟩ := tups e2; exact SeqAt.RcAt.str_tuple _ _ p aP
  | lst e1 jZ h1 =>
    rename_i a xs ds
    have yU : A.units + fi ds + 1 < cLine := by rw [fS] at hu; omega
    cases rx
    obtain ⟨its, rv, p⟩ := lists e1
    cases hy with
    | ao => cases ry; exact SeqAt.RcAt.list_none p aP
    | bl b => cases ry; exact SeqAt.RcAt.list_bool _ p aP
    | int b => obtain ⟨t, rfl⟩ := ry; exact SeqAt.RcAt.list_int _ _ p aP
    | str b => obtain ⟨t, rfl⟩ := ry; exact SeqAt.RcAt.list_str _ _ p aP
    | lst e2 gC h2 =>
      rename_i b ys es
      cases ry
      obtain ⟨ck, hV, p2⟩ := lists e2
      have l1 := rv.length
      have l2 := hV.length
      have at_ : ∀ j (g1 : j < its.toArray.size) (g2 : j < ck.toArray.size), SeqAt.EqAt A.in1 s its.toArray[j] ck.toArray[j] (bR (ds.getD j .ao) (es.getD j .ao)) := fun j g1 g2 => by
        have hZ : j < xs.length := by rw [l1]; simpa using g1
        have h8 : j < ys.length := by rw [l2]; simpa using g2
        have r1 := cg rv g1
        have r2 := cg hV g2
        rw [List.getD_eq_getElem?_getD, List.getElem?_eq_getElem hZ] at r1
        rw [List.getD_eq_getElem?_getD, List.getElem?_eq_getElem h8] at r2
        have d1 : ds[j]? = some ds[j] := List.getElem?_eq_getElem (by omega)
        have d2 : es[j]? = some es[j] := List.getElem?_eq_getElem (by omega)
        rw [List.getD_eq_getElem?_getD, List.getD_eq_getElem?_getD, d1, d2]
        have := i7 d1
        exact ll I (h1 j _ _ (List.getElem?_eq_getElem hZ) d1) (h2 j _ _ (List.getElem?_eq_getElem h8) d2) r1 r2 (by show A.units + 1 + _ < cLine; omega)
      rw [bR, dW]
      by_cases hsz : ds.length = es.length
      · have q := SeqAt.RcAt.lists p p2 (by simp only [List.size_toArray]; omega) aP at_
        have z : (ds.length == es.length) = true := by simpa using hsz
        rw [z, Bool.and_true, ← hsz, Nat.min_self]
        rw [List.size_toArray, ← l1, jZ] at q
        exact q
      · have z : (ds.length == es.length) = false := by simpa using hsz
        rw [z, Bool.and_false]
        exact SeqAt.RcAt.lists_lengths p p2 (by simp only [List.size_toArray]; simpa [bne_iff_ne] using (show its.length ≠ ck.length by omega)) aP
    | tup e2 gC h2 => cases ry; obtain ⟨_, _, p2⟩ := tups e2; exact SeqAt.RcAt.list_tuple p p2 aP
  | tup e1 jZ h1 =>
    rename_i a xs ds
    have yU : A.units + fi ds + 1 < cLine := by rw [fS] at hu; omega
    cases rx
    obtain ⟨its, rv, p⟩ := tups e1
    cases hy with
    | ao => cases ry; exact SeqAt.RcAt.tuple_none p aP
    | bl b => cases ry; exact SeqAt.RcAt.tuple_bool _ p aP
    | int b => obtain ⟨t, rfl⟩ := ry; exact SeqAt.RcAt.tuple_int _ _ p aP
    | str b => obtain ⟨t, rfl⟩ := ry; exact SeqAt.RcAt.tuple_str _ _ p aP
    | lst e2 gC h2 => cases ry; obtain ⟨_, _, p2⟩ := lists e2; exact SeqAt.RcAt.tuple_list p p2 aP
    | tup e2 gC h2 =>
      rename_i b ys es
      cases ry
      obtain ⟨ck, hV, p2⟩ := tups e2
      have l1 := rv.length
      have l2 := hV.length
      have at_ : ∀ j (g1 : j < its.toArray.size) (g2 : j < ck.toArray.size), SeqAt.EqAt A.in1 s its.toArray[j] ck.toArray[j] (bR (ds.getD j .ao) (es.getD j .ao)) := fun j g1 g2 => by
        have hZ : j < xs.length := by rw [l1]; simpa using g1
        have h8 : j < ys.length := by rw [l2]; simpa using g2
        have r1 := cg rv g1
        have r2 := cg hV g2
        rw [List.getD_eq_getElem?_getD, List.getElem?_eq_getElem hZ] at r1
        rw [List.getD_eq_getElem?_getD, List.getElem?_eq_getElem h8] at r2
        have d1 : ds[j]? = some ds[j] := List.getElem?_eq_getElem (by omega)
        have d2 : es[j]? = some es[j] := List.getElem?_eq_getElem (by omega)
        rw [List.getD_eq_getElem?_getD, List.getD_eq_getElem?_getD, d1, d2]
        have := i7 d1
        exact ll I (h1 j _ _ (List.getElem?_eq_getElem hZ) d1) (h2 j _ _ (List.getElem?_eq_getElem h8) d2) r1 r2 (by show A.units + 1 + _ < cLine; omega)
      rw [bR, dW]
      have q := SeqAt.RcAt.tuples p p2 aP at_
      rw [List.size_toArray, List.size_toArray, ← l1, ← l2, jZ, gC] at q
      exact q
theorem GF (I : Inv X pins σ H s) {x y : V} {d e : Dt} {u v : Value} {A : Around} (hx : c5 H x d) (hy : c5 H y e) (rx : RelV x u) (ry : RelV y v) (hu : A.units + fS d < cLine) : SeqAt.RcNeAt A s u v (!(bR d e)) := by
  have aP : A.units < cLine := by omega
  have lists := fun {a : Addr} {xs : List V} (h : H a = some (.lst xs)) => I.lists h
  have tups := fun {a : Addr} {xs : List V} (h : H a = some (.tup xs)) => I.tups h
  cases hx with
  | ao =>
    cases rx
    cases hy with
    | ao => cases ry; exact SeqAt.RcNeAt.none_none
    | bl b => cases ry; exact SeqAt.RcNeAt.none_bool _
    | int b => obtain ⟨t, rfl⟩ := ry; exact SeqAt.RcNeAt.none_int _ _
    | str b => obtain ⟨t, rfl⟩ := ry; exact SeqAt.RcNeAt.none_str _ _
    | lst e2 _ _ => cases ry; obtain ⟨_, _, p⟩ := lists e2; exact SeqAt.RcNeAt.none_list p aP
    | tup e2 _ _ => cases ry; obtain ⟨_, _, p⟩ := tups e2; exact SeqAt.RcNeAt.none_tuple p aP
  | bl a =>
    cases rx
    cases hy with
    | ao => cases ry; exact SeqAt.RcNeAt.bool_none _
    | bl b => cases ry; exact SeqAt.RcNeAt.bool_bool _ _
    | int b => obtain ⟨t, rfl⟩ := ry; exact SeqAt.RcNeAt.bool_int _ _ _
    | str b => obtain ⟨t, rfl⟩ := ry; exact SeqAt.RcNeAt.bool_str _ _ _
    | lst e2 _ _ => cases ry; obtain ⟨_, _, p⟩ := lists e2; exact SeqAt.RcNeAt.bool_list _ p aP
    | tup e2 _ _ => cases ry; obtain ⟨_, _, p⟩ := tups e2; exact SeqAt.RcNeAt.bool_tuple _ p aP
  | int a =>
    obtain ⟨ta, rfl⟩ := rx
    cases hy with
    | ao => cases ry; exact SeqAt.RcNeAt.int_none _ _
    | bl b => cases ry; exact SeqAt.RcNeAt.int_bool _ _ _
    | int b => obtain ⟨t, rfl⟩ := ry; exact SeqAt.RcNeAt.int_int _ _ _ _
    | str b => obtain ⟨t, rfl⟩ := ry; exact SeqAt.RcNeAt.int_str _ _ _ _
    | lst e2 _ _ => cases ry; obtain ⟨_, _, p⟩ := lists e2; exact SeqAt.RcNeAt.int_list _ _ p aP
    | tup e2 _ _ => cases ry; obtain ⟨_, _, p⟩ := tups e2; exact SeqAt.RcNeAt.int_tuple _ _ p aP
  | str a =>
    obtain ⟨ta, rfl⟩ := rx
    cases hy with
    | ao => cases ry; exact SeqAt.RcNeAt.str_none _ _
    | bl b => cases ry; exact SeqAt.RcNeAt.str_bool _ _ _
    | int b => obtain ⟨t, rfl⟩ := ry; exact SeqAt.RcNeAt.str_int _ _ _ _
    | str b => obtain ⟨t, rfl⟩ := ry; exact SeqAt.RcNeAt.str_str _ _ _ _
    | lst e2 _ _ => cases ry; obtain ⟨_, _, p⟩ := lists e2; exact SeqAt.RcNeAt.str_list _ _ p aP
    | tup e2 _ _ => cases ry; obtain ⟨_, _, p⟩ := tups e2; exact SeqAt.RcNeAt.str_tuple _ _ p aP
  | lst e1 jZ h1 =>
    rename_i a xs ds
    have yU : A.units + fi ds + 1 < cLine := by rw [fS] at hu; omega
    cases rx
    obtain ⟨its, rv, p⟩ := lists e1
    cases hy with
    | ao => cases ry; exact SeqAt.RcNeAt.list_none p aP
    | bl b => cases ry; exact SeqAt.RcNeAt.list_bool _ p aP
    | int b => obtain ⟨t, rfl⟩ := ry; exact SeqAt.RcNeAt.list_int _ _ p aP
    | str b => obtain ⟨t, rfl⟩ := ry; exact SeqAt.RcNeAt.list_str _ _ p aP
    | lst e2 gC h2 =>
      rename_i b ys es
      cases ry
      obtain ⟨ck, hV, p2⟩ := lists e2
      have l1 := rv.length
      have l2 := hV.length
      have at_ : ∀ j (g1 : j < its.toArray.size) (g2 : j < ck.toArray.size), SeqAt.EqAt A.in1 s its.toArray[j] ck.toArray[j] (bR (ds.getD j .ao) (es.getD j .ao)) := fun j g1 g2 => by
        have hZ : j < xs.length := by rw [l1]; simpa using g1
        have h8 : j < ys.length := by rw [l2]; simpa using g2
        have r1 := cg rv g1
        have r2 := cg hV g2
        rw [List.getD_eq_getElem?_getD, List.getElem?_eq_getElem hZ] at r1
        rw [List.getD_eq_getElem?_getD, List.getElem?_eq_getElem h8] at r2
        have d1 : ds[j]? = some ds[j] := List.getElem?_eq_getElem (by omega)
        have d2 : es[j]? = some es[j] := List.getElem?_eq_getElem (by omega)
        rw [List.getD_eq_getElem?_getD, List.getD_eq_getElem?_getD, d1, d2]
        have := i7 d1
        exact ll I (h1 j _ _ (List.getElem?_eq_getElem hZ) d1) (h2 j _ _ (List.getElem?_eq_getElem h8) d2) r1 r2 (by show A.units + 1 + _ < cLine; omega)
      rw [bR, dW]
      by_cases hsz : ds.length = es.length
      · have q := SeqAt.RcNeAt.lists p p2 (by simp only [List.size_toArray]; omega) aP at_
        have z : (ds.length == es.length) = true := by simpa using hsz
        rw [z, Bool.and_true, ← hsz, Nat.min_self]
        rw [List.size_toArray, ← l1, jZ] at q
        exact q
      · have z : (ds.length == es.length) = false := by simpa using hsz
        rw [z, Bool.and_false]
        exact SeqAt.RcNeAt.lists_lengths p p2 (by simp only [List.size_toArray]; simpa [bne_iff_ne] using (show its.length ≠ ck.length by omega)) aP
    | tup e2 gC h2 => cases ry; obtain ⟨_, _, p2⟩ := tups e2; exact SeqAt.RcNeAt.list_tuple p p2 aP
  | tup e1 jZ h1 =>
    rename_i a xs ds
    have yU : A.units + fi ds + 1 < cLine := by rw [fS] at hu; omega
    cases rx
    obtain ⟨its, rv, p⟩ := tups e1
    cases hy with
    | ao => cases ry; exact SeqAt.RcNeAt.tuple_none p aP
    | bl b => cases ry; exact SeqAt.RcNeAt.tuple_bool _ p aP
    | int b => obtain ⟨t, rfl⟩ := ry; exact SeqAt.RcNeAt.tuple_int _ _ p aP
    | str b => obtain ⟨t, rfl⟩ := ry; exact SeqAt.RcNeAt.tuple_str _ _ p aP
    | lst e2 gC h2 => cases ry; obtain ⟨_, _, p2⟩ := lists e2; exact SeqAt.RcNeAt.tuple_list p p2 aP
    | tup e2 gC h2 =>
      rename_i b ys es
      cases ry
      obtain ⟨ck, hV, p2⟩ := tups e2
      have l1 := rv.length
      have l2 := hV.length
      have at_ : ∀ j (g1 : j < its.toArray.size) (g2 : j < ck.toArray.size), SeqAt.EqAt A.in1 s its.toArray[j] ck.toArray[j] (bR (ds.getD j .ao) (es.getD j .ao)) := fun j g1 g2 => by
        have hZ : j < xs.length := by rw [l1]; simpa using g1
        have h8 : j < ys.length := by rw [l2]; simpa using g2
        have r1 := cg rv g1
        have r2 := cg hV g2
        rw [List.getD_eq_getElem?_getD, List.getElem?_eq_getElem hZ] at r1
        rw [List.getD_eq_getElem?_getD, List.getElem?_eq_getElem h8] at r2
        have d1 : ds[j]? = some ds[j] := List.getElem?_eq_getElem (by omega)
        have d2 : es[j]? = some es[j] := List.getElem?_eq_getElem (by omega)
        rw [List.getD_eq_getElem?_getD, List.getD_eq_getElem?_getD, d1, d2]
        have := i7 d1
        exact ll I (h1 j _ _ (List.getElem?_eq_getElem hZ) d1) (h2 j _ _ (List.getElem?_eq_getElem h8) d2) r1 r2 (by show A.units + 1 + _ < cLine; omega)
      rw [bR, dW]
      have q := SeqAt.RcNeAt.tuples p p2 aP at_
      rw [List.size_toArray, List.size_toArray, ← l1, ← l2, jZ, gC] at q
      exact q
end
section
variable {X : Cx}
noncomputable def Bs (neg : Bool) : R2 := fun x y H Q => ∃ d e, c5 H x d ∧ c5 H y e ∧ fS d ≤ 60 ∧ Q (.bl (if neg then !bR d e else bR d e)) H
theorem GH (hu : X.A.units + 64 < cLine) : OpR X (compareOp .Eq) (Bs false) := by
  intro pins s σ H x y v u Q I rx ry h
  obtain ⟨d, e, hx, hy, hd, q⟩ := h
  exact GD I hx hy rx ry (by omega) X.prog X.w X.xe _ ⟨.bl _, H, I, rfl, q⟩
theorem GI (hu : X.A.units + 64 < cLine) : OpR X (compareOp .NotEq) (Bs true) := by
  intro pins s σ H x y v u Q I rx ry h
  obtain ⟨d, e, hx, hy, hd, q⟩ := h
  exact GF I hx hy rx ry (by omega) X.prog X.w X.xe _ ⟨.bl _, H, I, rfl, q⟩
end
theorem GJ : bootBuiltins "set" = some (.type "set") := by decide +kernel
theorem qQ : bootBuiltins "sorted" = some (.builtin "sorted") := by decide +kernel
section
variable {X : Cx}
noncomputable def yW (K : PySem.W.Frag) (H : Hp) (p : Addr) (ns : List Int) : Prop := bH K H p (ns.map V.int) ∨ cu K H p (ns.map V.int)
noncomputable def sV (P : Program) (w : World) (K : PySem.W.Frag) : List V → Hp → VK → Prop := fun xs H Q => ∃ p ns, xs = [.ref p] ∧ yW K H p ns ∧ ns.length + 1 < scanBound ∧ ∀ l, H l = none → Q (.ref l) (upd H l (fA P w l (cR ns)))
theorem sW {ns : List Int} {us : List Value} (r : Vals (ns.map V.int) us) : ∀ (i : Nat) (v : Value), us.toArray[i]? = some v → ∃ m t, ns[i]? = some m ∧ v = .int m t := fun i v h => by
  have hl := r.length
  have h' : us[i]? = some v := by simpa using h
  have hi : i < us.length := (List.getElem?_eq_some_iff.mp h').1
  have d6 : i < ns.length := by rw [List.length_map] at hl; omega
  obtain ⟨u, e, q⟩ := r.get (i := i) (x := V.int ns[i]) (by rw [List.getElem?_map, List.getElem?_eq_getElem d6]; rfl)
  rw [h'] at e; cases e
  obtain ⟨t, rfl⟩ := q
  exact ⟨_, t, List.getElem?_eq_getElem d6, rfl⟩
theorem yX (hc : X.calm = true) : de X (.type "set") (sV X.prog X.w X.K) := by
  intro pins s σ H xs us Q I r h
  obtain ⟨p, ns, rfl, hq, hb, q⟩ := h
  obtain ⟨u, rfl, rx⟩ := vals1 r
  cases rx
  have fin : ∀ (h' : Heap) (tk : Nat), bM X.prog X.w h' s.heap.objs.size (cR ns) → (∀ b o, s.heap.get? b = some o → h'.get? b = some o) → EP X pins σ Q (.ref s.heap.objs.size) { s with heap := h', toks := tk } := fun h' tk hM hk =>
    ⟨.ref s.heap.objs.size, _, I.laid (t' := tk) hk (Nat.le_refl _) (pO hM), rfl, q _ (I.hok.fresh (Nat.le_refl _))⟩
  have hh := I.ok.hd hc
  rcases hq with hq | hq
  · obtain ⟨its, rv, pl, hz⟩ := I.list hq
    have hl : its.toArray.size = ns.length := by rw [List.size_toArray, ← rv.length, List.length_map]
    obtain ⟨o, ho, cT, n, hd⟩ := pl.isList
    refine la (T := "list") (vs := ns) (itob := { cls := .type "list_iterator", data := .fields #[.ref p, .int 0 0] }) (Pv := fun i v => its.toArray[i]? = some v) (St := fun I i h => h.IsListIter I p i ∧ h.IsList p its.toArray) hh ⟨o, ho⟩ (fun s1 k => ⟨o, k o ho, cT⟩) F.sub_list_set F.sub_list_frozenset (by decide)
      (fun A' s1 Q' E' k yY => wpAny_pyIter_list ⟨o, k o ho, cT, n, hd⟩ yY) (fun A' I' hA eF => hl ▸ Walks.list hA I' p eF its.toArray) (fun h1 k => ⟨⟨_, Heap.get?_push_size _ rfl, rfl, rfl⟩, ⟨o, Heap.get?_push_of_some _ (k o ho), cT, n, hd⟩⟩) (sW rv) hb fin
  · obtain ⟨its, rv, pl, hz⟩ := I.tuple hq
    have hl : its.toArray.size = ns.length := by rw [List.size_toArray, ← rv.length, List.length_map]
    obtain ⟨o, ho, cT, n, hd⟩ := pl
    refine la (T := "tuple") (vs := ns) (itob := { cls := .type "tuple_iterator", data := .fields #[.ref p, .int 0 0] }) (Pv := fun i v => its.toArray[i]? = some v) (St := fun I i h => h.IsTupleIter I p i ∧ h.IsTuple p its.toArray) hh ⟨o, ho⟩ (fun s1 k => ⟨o, k o ho, cT⟩) sub_tuple_set pN (by decide)
      (fun A' s1 Q' E' k yY => wpAny_pyIter_tuple ⟨o, k o ho, cT, n, hd⟩ yY) (fun A' I' hA eF => hl ▸ Walks.tuple hA I' p eF its.toArray) (fun h1 k => ⟨⟨_, Heap.get?_push_size _ rfl, rfl, rfl⟩, ⟨o, Heap.get?_push_of_some _ (k o ho), cT, n, hd⟩⟩) (sW rv) hb fin
noncomputable def vo (P : Program) (w : World) (K : PySem.W.Frag) : List V → Hp → VK → Prop := fun xs H Q => ∃ p ns, xs = [.ref p] ∧ (H p = some (fA P w p ns) ∨ yW K H p ns) ∧ ns.length < 64 ∧ ∀ l, H l = none → Q (.ref l) (upd H l (.lst ((sortI ns).map V.int)))
theorem sX (hc : X.calm = true) : de X (.builtin "sorted") (vo X.prog X.w X.K) := by
  intro pins s σ H xs us Q I r h
  obtain ⟨p, ns, rfl, hq, Gy, q⟩ := h
  obtain ⟨u, rfl, rx⟩ := vals1 r
  cases rx
  have hh := I.ok.hd hc
  refine wH (ns := ns) (fun QL GK => ?_) Gy (fun h1 h' d' tk us e hI k1 k2 he => ?_)
  · rcases hq with hq | hq | hq
    · exact uL (by simp [hh]) (vn I hq) (by have : sizeLine = 16777216 := sizeLine_eq; omega) GK
    · obtain ⟨its, rv, pl, hz⟩ := I.list hq
      have hl := rv.length
      obtain ⟨o, ho, cT, n, hd⟩ := pl.isList
      exact m7 ho cT hd (.inl rfl) (fun h' k => GK its ns h' s.drawn s.toks (wG rv) (.refl _) k) (by omega)
    · obtain ⟨its, rv, pl, hz⟩ := I.tuple hq
      have hl := rv.length
      obtain ⟨o, ho, cT, n, hd⟩ := pl
      exact m7 ho cT hd (.inr rfl) (fun h' k => GK its ns h' s.drawn s.toks (wG rv) (.refl _) k) (by omega)
  · have I1 : Inv X pins σ H { s with heap := h1, drawn := d' } := (I.kept (t' := s.toks) k1).nE ⟨rfl, rfl, I.bare.self⟩
    have hsz : sizeLine = 16777216 := sizeLine_eq
    have ob : ObjOk X.prog X.w (upd H h1.objs.size (.lst ((sortI ns).map V.int))) h' h1.objs.size (.lst ((sortI ns).map V.int)) := ⟨by rw [List.length_map, (sortI_perm ns).length_eq]; omega, us, e, lh hI, he⟩
    exact ⟨.ref h1.objs.size, _, I1.laid (t' := tk) k2 (Nat.le_refl _) ob, rfl, q _ (I1.hok.fresh (Nat.le_refl _))⟩
end
noncomputable def fm (n : Nat) : List Int := (List.range n).map fun i => ((i : Nat) : Int)
section
variable {X : Cx}
theorem wK {K : PySem.W.Frag} (h : X.K = K) (hc : X.calm = true) : de X (.type "set") (sV X.prog X.w K) := h ▸ yX hc
end
theorem ObjOk.there {P : Program} {w : World} {H : Hp} {h : Heap} {a : Addr} {o : HO} (x : ObjOk P w H h a o) : ∃ u, h.get? a = some u := by
  cases o with
  | lst xs => obtain ⟨_, _, _, _, e⟩ := x; exact ⟨_, e⟩
  | tup xs => obtain ⟨_, _, _, ob, e, _⟩ := x; exact ⟨_, e⟩
  | dK aq => obtain ⟨_, _, _, _, o, _, _, e, _⟩ := x; exact ⟨_, e⟩
  | dT aq => obtain ⟨_, _, _, _, o, _, _, e, _⟩ := x; exact ⟨_, e⟩
  | set S n => obtain ⟨o, _, _, _, e, _⟩ := x; exact ⟨_, e⟩
  | ins C dx fs => obtain ⟨_, _, _, e, _⟩ := x; exact ⟨_, e⟩
  | own y => obtain ⟨_, e⟩ := x; exact ⟨_, e⟩
  | xd fs => obtain ⟨_, ⟨_, _, _, e, _⟩, _⟩ := x; exact ⟨_, e⟩
  | rng lo hi => obtain ⟨_, _, _, e⟩ := x; exact ⟨_, e⟩
  | bD ob u => obtain ⟨e, _⟩ := x; exact ⟨_, e⟩
  | cC ps => exact ⟨_, x⟩
  | lam ps => exact ⟨_, x⟩
  | met f y => exact ⟨_, x⟩
  | ext φ => obtain ⟨_, ⟨_, e⟩, _⟩ := x; exact ⟨_, e⟩
noncomputable def gG (P : Program) (w : World) : gd := fun outer H s E e s' => ∃ (a C t : Addr) (B : Heap) (H' : Hp), e = .ref a ∧ s'.os = s.os ∧ Gn s.gens.size s'.gens ∧ Heap.FlyingW B outer a (.ref C) (.ref t) s'.heap ∧
  (∀ b o, s.heap.get? b = some o → b ∉ dO outer → ∃ o', B.get? b = some o') ∧ (∀ b u, H' b = some u → ∃ o', B.get? b = some o') ∧ Un (dO outer) [] H H' s.heap s'.heap ∧ cp P w H' s'.heap ∧ E (.ref C) none H'
section
variable {X : Cx} {pins : List (Addr × Obj)} {σ : St} {H H1 : Hp} {s s1 : Shared} {B h' : Heap}
theorem Inv.lr (I : Inv X pins σ H s) {b : Addr} (h1 : b ≠ X.env.locals) (h2 : b ∉ X.fs) : b ∉ dO X.stack := fun z => by
  rcases List.mem_cons.mp (I.eC b z) with q | q
  · exact h1 q
  · exact h2 q
theorem Inv.rT (I : Inv X pins σ H s) {b : Addr} {o : Obj} (e : X.s₀.heap.get? b = some o) : b ≠ X.env.locals := fun z => by
  have l := Heap.lt_size e
  have := I.ok.above
  rw [← z] at this
  exact absurd l (Nat.not_lt.mpr this)
theorem Inv.Kx (I1 : Inv X pins σ H1 s1) (I : Inv X pins σ H s) (c1 : ∀ b o, s1.heap.get? b = some o → b ∉ dO X.stack → ∃ o', B.get? b = some o') (c2 : ∀ b u, H b = some u → ∃ o', B.get? b = some o')
    (k : B.StaysIn s.heap) (k' : B.StaysIn h') (up : s.heap.UpToSlots h') : Inv X pins σ H { s with heap := h' } := by
  have same : ∀ b o', (∃ o2, B.get? b = some o2) → s.heap.get? b = some o' → h'.get? b = some o' := fun b o' ⟨o2, e⟩ q => by
    have z := k b o2 e
    rw [q] at z
    cases z
    exact k' b _ e
  refine ⟨I.ok, I.os, I.bare, ⟨fun b o q n hb hx => ?_, fun b o q n hb hx => ?_, I.base.free, fun b o q hx => ?_, I.base.tups, I.base.frzs, I.base.tbls⟩, ?_, fun x c e => ?_, I.free, I.freeC, fun p hp => ?_, fun a o e => ?_, I.len⟩
  · exact same b o (c1 b o (I1.base.keep b o q n hb hx) (I.lr (I.rT q) hb)) (I.base.keep b o q n hb hx)
  · obtain ⟨sl, e⟩ := I.base.slot b o q n hb hx
    obtain ⟨_, o2, e2, nf⟩ := I.funs.mem hb
    rw [e] at e2
    cases e2
    obtain ⟨Nt, e4⟩ := up b { o with slots := sl } e nf
    exact ⟨Nt, e4⟩
  · obtain ⟨o', e⟩ := I.base.there b o q hx
    by_cases hb : b ∈ X.fs
    · obtain ⟨_, o2, e2, nf⟩ := I.funs.mem hb
      obtain ⟨sl, e3⟩ := up b _ e2 nf
      exact ⟨_, e3⟩
    · obtain ⟨o1, q1⟩ := I1.base.there b o q hx
      exact ⟨o', same b o' (c1 b o1 q1 (I.lr (I.rT q) hb)) e⟩
  · obtain ⟨m, hn, hl⟩ := I.loc
    refine ⟨m, up.ns hn, fun i x v a b c => ?_⟩
    obtain ⟨u, r, l⟩ := hl i x v a b c
    refine ⟨u, r, ?_⟩
    rcases l with l | ⟨kd, c, ec, o, ho, hd⟩
    · exact .inl l
    · obtain ⟨sl, e⟩ := up c o ho fun vs z => by rw [hd] at z; cases z
      exact .inr ⟨kd, c, ec, _, e, hd⟩
  · obtain ⟨v, o, ho, hd⟩ := I.cell x c e
    obtain ⟨sl, e⟩ := up c o ho fun vs z => by rw [hd] at z; cases z
    exact ⟨v, _, e, hd⟩
  · obtain ⟨p1, p2, p3, p4, p5⟩ := I.pin p hp
    exact ⟨same p.1 p.2 (c1 p.1 p.2 (I1.pin p hp).1 (I.lr p3 p4)) p1, p2, p3, p4, p5⟩
  · refine (I.hok a o e).bT (fun b u hb q => ?_) (fun _ q => q) fun _ _ q => q
    rcases hb with z | z
    · exact same b u (c2 b o (by rw [z]; exact e)) q
    · exact same b u (c2 b _ z) q
end
section
variable {P : Program} {w : World} {K : PySem.W.Frag} {mg : Str → Option Value} {base : Heap} {N : List Str} {qual : Str} {scope : Scope} {f : Addr} {cd : Value} {A : Around} {outer : List Env} {s0 : Shared} {H0 : Hp} {E : XK}
theorem CK : Passes (gG P w) (fg (gG P w) P w K mg base N qual scope f cd A outer s0 H0 E) E := by
  intro pins σ H s e s' I h
  obtain ⟨a, C, t, B, H', rfl, os, gn, fl, c1, c2, un, hok, q⟩ := h
  have I' := I.oe (ch := []) os un hok gn (fun b z => absurd z (by simp))
  refine wpAny_leaves_onW (cls := .ref C) (a0 := .ref t) I.ok.frames rfl fl fun h' Ky up => ?_
  have I2 := I.Kx I' c1 c2 fl.1 Ky.1 up
  refine ⟨a, C, t, B, H', rfl, I2.os, I2.bare, Ky, fun b o e n => ?_, c2, I2.base, I2.hok, q⟩
  obtain ⟨o1, e1⟩ := I.base.there b o e (fun z => absurd (show b ∈ ([] : List Addr) from z) (by simp))
  exact c1 b o1 e1 (I.lr (I.rT e) n)
noncomputable def Raises (X : Cx) (E : XK) : Prop := ∀ (pins : List (Addr × Obj)) (σ : St) (H : Hp) (s : Shared) (C : Addr) (h' : Heap) (a : Addr) (vs : List Value), Inv X pins σ H s → Heap.MadeExcOf s.heap h' a (.ref C) vs → E (.ref C) none H → X.xe (.ref a) { s with heap := h' }
theorem yZ : Raises (fg (gG P w) P w K mg base N qual scope f cd A outer s0 H0 E) E := by
  intro pins σ H s C h' a vs I hx q
  have c1 : ∀ b o, s.heap.get? b = some o → b ∉ dO (fg (gG P w) P w K mg base N qual scope f cd A outer s0 H0 E).stack → ∃ o', (PySem.W.hideAll s.heap (dO (fg (gG P w) P w K mg base N qual scope f cd A outer s0 H0 E).stack)).get? b = some o' :=
    fun b o e n => ⟨o, PySem.W.hideAll_get _ e n⟩
  have c2 : ∀ b u, H b = some u → ∃ o', (PySem.W.hideAll s.heap (dO (fg (gG P w) P w K mg base N qual scope f cd A outer s0 H0 E).stack)).get? b = some o' := fun b u hu => by
    obtain ⟨o, e⟩ := (I.hok b u hu).there
    exact c1 b o e fun z => by rw [I.jT b z] at hu; cases hu
  have st : (PySem.W.hideAll s.heap (dO (fg (gG P w) P w K mg base N qual scope f cd A outer s0 H0 E).stack)).StaysIn s.heap := fun b o e => PySem.W.of_hideAll _ e
  refine wpAny_leaves_madeW (cls := .ref C) I.ok.frames rfl st (PySem.W.funFrames_hide I.stack fun env he b hb => List.mem_filterMap.mpr ⟨env, he, hb⟩) hx fun Pz t fl _ _ up => ?_
  have I2 := I.Kx I c1 c2 st fl.1 ((Heap.UpToSlots.of_keeps hx.keeps).trans up)
  refine ⟨a, C, t, _, H, rfl, I2.os, I2.bare, fl, fun b o e n => ?_, c2, I2.base, I2.hok, q⟩
  obtain ⟨o1, e1⟩ := I.base.there b o e (fun z => absurd (show b ∈ ([] : List Addr) from z) (by simp))
  exact c1 b o1 e1 (I.lr (I.rT e) n)
end
theorem DY {K : PySem.W.Frag} {h : Heap} {C : Addr} {qR : List Value} {newId : String} (X : K.In h) (q : PySem.W.excIn K C qR newId = true) :
    ∃ bm Nn nm qn bs hd sn sub ab col dd k0 k1 k2 k3 k5 mN, h.get? C = some (excClassObj nm qn C Nn bs bm hd sn sub ab col dd k0 k1 k2 k3 k5 newId) ∧ h.Ns Nn mN ∧ mN "__init__" = none ∧ OwnTail h qR bm := by
  unfold PySem.W.excIn at q
  split at q
  case h_2 => cases q
  case h_1 dd cd sl ho =>
    split at q
    case h_2 => cases q
    case h_1 C' bm k0 k1 k2 k3 n k5 hm hs =>
      rw [Bool.and_eq_true, Bool.and_eq_true, Bool.and_eq_true, Bool.and_eq_true, Bool.and_eq_true] at q
      obtain ⟨⟨⟨⟨⟨q1, q2⟩, q3⟩, q4⟩, q5⟩, q6⟩ := q
      have e1 : C' = C := beq_iff_eq.mp q1
      have e2 : n = newId := beq_iff_eq.mp q2
      have e3 : cd.hasDel = false := by simpa using q3
      subst e1 e2
      obtain ⟨nm, bs, mro, ns, qn, hd, sn, sub, ab, col, del⟩ := cd
      dsimp only at hm e3 q5 q6
      subst hm e3
      have es : sl = #[k0, k1, k2, k3, some (.builtin n), k5] := by
        cases sl with
        | mk l => exact congrArg Array.mk hs
      subst es
      exact ⟨bm, ns, nm, qn, bs, hd, sn, sub, ab, col, dd, k0, k1, k2, k3, k5, _, X _ _ ho, Heap.Ns.of_isNs (PySem.W.isNs_of_in X q5), PySem.W.nsMap_none_of_in X q5 (beq_iff_eq.mp q6), PySem.W.tail_of_in X q4⟩
section
variable {X : Cx} {x : Str} {C : Addr} {jP : Expr} {rest : List Expr} {t : TA} {qR : List Value} {B newId sY : String} {E : XK} {np aW pos : Pos}
noncomputable def GL (C : Addr) (E : XK) (t : TA) : TS := fun _ σ H => t σ H fun vs H1 => vs.length ≤ sizeLine ∧ E (.ref C) none H1
theorem Bt (O : PySem.W.excIn X.K C qR newId = true) (FB : ExcBaseFacts B newId sY qR) (hc : X.calm = true) (hR : Raises X E) (hg : Gl X x) (hm : X.mg x = some (.ref C)) (ha : PA X (jP :: rest) t)
    (eE : (x == ("__debug__" : Str)) = false := by decide) (he : starEach (jP :: rest) X.env = (false, eval jP X.env) :: starEach rest X.env := by rfl) (bV : (backTo aW (starEach rest X.env)).any (·.1) = false := by rfl) :
    PS X (.Raise (some (.Call (.Name x np) (jP :: rest) [] aW)) none pos) (GL C E t) := by
  refine ⟨fun pins s σ H D I h => ?_⟩
  obtain ⟨bm, Nn, nm, qn, bs, hd, sn, sub, ab, col, dd, k0, k1, k2, k3, k5, mN, hC, hN, Nu, T⟩ := DY I.ok.mod.kin O
  have hp : (backTo aW (starEach (jP :: rest) X.env)).any (·.1) = false := by
    rw [he]
    exact bV
  have jz := ha aW pins s σ H _ I h
  rw [he] at jz
  refine wpAny_Raise_call_subT (C := C) (nm := nm) (q := qn) (N := Nn) (bs := bs) (bm := bm) (hdct := hd) (sn := sn) (sub := sub) (ab := ab) (col := col) (dd := dd) (k0 := k0) (k1 := k1) (k2 := k2) (k3 := k3) (k5 := k5) FB (mN := mN)
    (T.hasType FB.hasBase) (I.ok.hd hc) hp Nu (my I hg hm ⟨rfl, ?_⟩ eE)
  rw [he]
  refine Calls.evalArgs_plain (thn jz fun us s2 ⟨vs, H2, I2, r, l, q⟩ => ?_)
  exact ⟨rfl, by rw [← r.length]; exact l, I2.bk _ _ hC, hN.keeps I2.bk, T.keeps I2.bk, fun h' a hx => hR pins σ H2 s2 C h' a us I2 hx q⟩
end
end L2
namespace L2
open PySem PySem.Spec PyProof.Rows PySem.W Builtin Builtin.ObjectAttr Builtin.Getset_descriptor
noncomputable def ExcAt (C a : Addr) (h : Heap) : Prop := ∃ o vs, h.get? a = some o ∧ o.cls = .ref C ∧ o.data = .fields vs
noncomputable def L5 (C a : Addr) : HO := .ext (ExcAt C a)
structure GN (K : Frag) (C : Addr) : Prop where
  cls : (clsIn K C).isSome = true
  ga : findIn K (.ref C) "__getattribute__" = some (some (.builtin "BaseException.__getattribute__"))
  gt : findIn K (.ref C) "__getattr__" = some none
  cl : findIn K (.ref C) "__class__" = some (some (.builtin "object.__class__"))
  gg : specialIn K (.builtin "object.__class__") "__get__" = some (some (.builtin "getset_descriptor.__get__"))
  tk : takesIn K (.builtin "object.__class__") = some true
  ob : mroIn K C (.type "object") = some true
  be : mroIn K C (.type "BaseException") = some true
end L2
namespace L2
open PySem PySem.Spec PyProof.Rows PySem.W
section
variable {X : Cx} {pins pins' : List (Addr × Obj)} {σ : St} {H : Hp} {s : Shared} {T : Value → Shared → Prop}
theorem Inv.Jq {a : Addr} {o : HO} (I : Inv X pins σ H s) (n0 : H a = none) (n1 : X.s₀.heap.get? a = none) (n2 : a ≠ X.env.locals) (n3 : ∀ x c, X.env.cells.lookup x = some c → c ≠ a) (n4 : ∀ p ∈ X.pn ++ pins, p.1 ≠ a)
    (ob : ObjOk X.prog X.w (upd H a o) s.heap a o) : Inv X pins σ (upd H a o) s := by
  have un : ∀ b u, H b = some u → upd H a o b = some u := fun b u e => by rw [ae (aT e n0)]; exact e
  refine ⟨I.ok, I.os, I.bare, ⟨I.base.keep, I.base.slot, fun b u q n hx => ?_, I.base.there, fun b xs e => un _ _ (I.base.tups b xs e), fun b u v e => un _ _ (I.base.frzs b u v e), fun b ps e => ?_⟩, I.loc, I.cell, ?_, fun x c e => ?_, fun p hp => ?_, fun b u e => ?_, I.len⟩
  · rw [ae (fun z => by rw [z, n1] at q; cases q)]
    exact I.base.free b u q n hx
  · obtain ⟨more, z⟩ := I.base.tbls b ps e
    exact ⟨more, un _ _ z⟩
  · rw [ae (Ne.symm n2)]
    exact I.free
  · rw [ae (n3 x c e)]
    exact I.freeC x c e
  · obtain ⟨p1, p2, p3⟩ := I.pin p hp
    exact ⟨p1, by rw [ae (n4 p hp)]; exact p2, p3⟩
  · by_cases hb : b = a
    · subst hb
      rw [ay] at e
      cases e
      exact ob
    · rw [ae hb] at e
      exact (I.hok b u e).bT (fun _ _ _ q => q) (fun c q => un _ _ q) fun c xs q => un _ _ q
end
structure y0 (K : Frag) (C0 : Addr) : Prop where
  ty : typeIn K (.ref C0) = some (.type "type")
  be : subIn K (.ref C0) (.type "BaseException") = some true
  it : (clsIn K C0).isSome = true
theorem Jr {P : Program} {w : World} {X : Cx} : Passes (gG P w) X (fun _ _ _ => False) := fun _ _ _ _ _ _ _ h => by
  obtain ⟨_, _, _, _, _, _, _, _, _, _, _, _, _, q⟩ := h
  exact q.elim
theorem qD.yF {P : Program} {w : World} {K : PySem.W.Frag} {mg : Str → Option Value} {base : Heap} {x qual : Str} {st : Stmt} {f : Addr} {fd : FuncData} {N ps : List Str} {k : Nat} {sp : Sp} (F : qD K x qual st f fd) (S : aQ N ps (ai st)) (len : ∀ vs H Q E, sp vs H Q E → vs.length = ps.length)
    (kb : ∀ (A : Around) (outer : List Env) (s : Shared) (H : Hp) (vs : List V) (Q : VK) (E : XK), bL k (A.deeper (envOfC qual (ai st) s.heap.objs.size f fd.code)) → sp vs H Q E →
      ∃ t, fO (fg (gG P w) P w K mg base N qual (ai st) f fd.code A outer s H E) (bB st) t ∧ t { nx := fun _ H' => Q .ao H', rt := Q } (start N vs) H) : FnOk P w K mg base (gG P w) (k + 1) f fd ps sp := by
  obtain ⟨oc, od, kV, doc, pm, an, cw, ct, jw, rfl, lk, dE⟩ := F.ex
  exact wa lk dE S len fun A outer s H vs Q E hr jx => kb A outer s H vs Q E hr jx
noncomputable def Kz : List Value := [.type "ValueError", .type "Exception", .type "BaseException", .type "object"]
noncomputable def Bu (K : Frag) (C0 C : Addr) : Bool := excIn K C Kz "ValueError.__new__" && (clsIn K C).isSome && findIn K (.ref C) "__getattribute__" == some (some (.builtin "BaseException.__getattribute__")) && findIn K (.ref C) "__getattr__" == some none &&
  findIn K (.ref C) "__class__" == some (some (.builtin "object.__class__")) && mroIn K C (.type "object") == some true && mroIn K C (.type "BaseException") == some true && subIn K (.ref C) (.ref C0) == some true && kitOne K (.ref C) (.type "ValueError") == some true
noncomputable def wL (K : Frag) (C0 : Addr) (cs : List Addr) : Bool := cs.all (Bu K C0) && (cs.all fun C => cs.all fun D => kitOne K (.ref C) (.ref D) == some (decide (C = D))) && specialIn K (.builtin "object.__class__") "__get__" == some (some (.builtin "getset_descriptor.__get__")) && takesIn K (.builtin "object.__class__") == some true &&
  typeIn K (.ref C0) == some (.type "type") && subIn K (.ref C0) (.type "BaseException") == some true && (clsIn K C0).isSome
structure Bv (K : Frag) (C0 : Addr) (cs : List Addr) : Prop where
  ex : ∀ C ∈ cs, excIn K C Kz "ValueError.__new__" = true
  cl : ∀ C ∈ cs, GN K C
  sub : ∀ C ∈ cs, subIn K (.ref C) (.ref C0) = some true
  one : ∀ C ∈ cs, ∀ D ∈ cs, kitOne K (.ref C) (.ref D) = some (decide (C = D))
  val : ∀ C ∈ cs, kitOne K (.ref C) (.type "ValueError") = some true
  top : y0 K C0
theorem DZ {K : Frag} {C0 : Addr} {cs : List Addr} (h : wL K C0 cs = true) : Bv K C0 cs := by
  unfold wL at h
  simp only [Bool.and_eq_true] at h
  obtain ⟨⟨⟨⟨⟨⟨h1, h2⟩, h3⟩, h4⟩, h5⟩, h6⟩, h7⟩ := h
  have all : ∀ C ∈ cs, Bu K C0 C = true := List.all_eq_true.mp h1
  have part : ∀ C ∈ cs, _ := fun C hC => by
    have z := all C hC
    unfold Bu at z
    simp only [Bool.and_eq_true] at z
    exact z
  refine ⟨fun C hC => (part C hC).1.1.1.1.1.1.1.1, fun C hC => ?_, fun C hC => beq_iff_eq.mp (part C hC).1.2, fun C hC D hD => beq_iff_eq.mp (List.all_eq_true.mp (List.all_eq_true.mp h2 C hC) D hD), fun C hC => beq_iff_eq.mp (part C hC).2, ⟨beq_iff_eq.mp h5, beq_iff_eq.mp h6, h7⟩⟩
  obtain ⟨⟨⟨⟨⟨⟨⟨⟨_, p1⟩, p2⟩, p3⟩, p4⟩, p5⟩, p6⟩, _⟩, _⟩ := part C hC
  exact ⟨p1, beq_iff_eq.mp p2, beq_iff_eq.mp p3, beq_iff_eq.mp p4, beq_iff_eq.mp h3, beq_iff_eq.mp h4, beq_iff_eq.mp p5, beq_iff_eq.mp p6⟩
end L2
namespace L2
open PySem PySem.Spec PyProof.Rows Builtin.SmallTypes
noncomputable def fD (k : Bool) (h : Heap) (it a : Addr) (i : Nat) : Prop := if k = true then h.IsListIter it a i else h.IsTupleIter it a i
noncomputable def nJ (k : Bool) (h : Heap) (a : Addr) (items : Array Value) : Prop := if k = true then h.IsList a items else h.IsTuple a items
theorem fD.at {k : Bool} {h h' : Heap} {it a : Addr} {i : Nat} (x : fD k h it a i) (q : ∀ o, h.get? it = some o → h'.get? it = some o) : fD k h' it a i := by
  cases k with
  | true => exact Heap.IsListIter.at (h := h) x q
  | false => exact Heap.IsTupleIter.at (h := h) x q
theorem fD.obj {k : Bool} {h : Heap} {it a : Addr} {i : Nat} (x : fD k h it a i) : ∃ o, h.get? it = some o ∧ ∃ vs, o.data = .fields vs := by
  cases k with
  | true => obtain ⟨o, e, _, d⟩ := (show h.IsListIter it a i from x); exact ⟨o, e, _, d⟩
  | false => obtain ⟨o, e, _, d⟩ := (show h.IsTupleIter it a i from x); exact ⟨o, e, _, d⟩
section
variable {prog : Program} {w : World} {A : Around} {E : Value → Shared → Prop} {s : Shared} {it a : Addr} {i : Nat} {items : Array Value} {x : Value} {k : Bool}
theorem Bw {Q : Option Value → Shared → Prop} (hit : s.heap.IsTupleIter it a i) (ha : s.heap.IsTuple a items) (hx : items[i]? = some x)
    (hQ : ∀ h', h'.IsTupleIter it a (i + 1) → Heap.SameBut it s.heap h' → Q (some x) { s with heap := h' }) : wpAny (model prog w) A (callSpecial? (.ref it) "__next__") Q E s := by
  obtain ⟨o, ho, hc, hd⟩ := id hit
  obtain ⟨ol, sP, _, nl, GO⟩ := ha
  have sl := F.slot_tuple_iterator_next
  refine wpAny_callSpecial?_slot (name := Str.ofString "__next__") hit.typeIs sl (wpAny_call_entry sl hit.typeIs F.entry_tuple_iterator_next ?_ (F.args_tuple_iterator_next_1 _))
  have nn : ¬ ((Value.ref a == Value.none) = true) := Bool.false_ne_true
  refine wpAny_bind (m := field (.ref it) 0) (wpAny_field ho hd (x := .ref a) rfl ?_)
  rw [if_neg nn]
  refine wpAny_bind (m := field (.ref it) 1) (wpAny_field ho hd (x := .int i 0) rfl (wpAny_bind (m := seqItems? (.ref a)) (wpAny_seqItems sP GO ?_)))
  simp only [Int.toNat_natCast, hx]
  refine wpAny_bind (m := setField _ _ _) (wpAny_setField ho hd (by simp) (wpAny_pure ⟨x, rfl, hQ _ ?_ (Heap.SameBut.update ..)⟩))
  refine ⟨_, Heap.get?_update_self _ ho (Obj.isFreed_of_fields (Obj.data_mapFields hd _)), (Obj.cls_mapFields ..).trans hc, ?_⟩
  rw [Obj.data_mapFields hd]
  simp [rawInt]
theorem By {Q : Option Value → Shared → Prop} (hh : A.handled = none) (hit : s.heap.IsTupleIter it a i) (ha : s.heap.IsTuple a items) (hx : items[i]? = none)
    (hE : ∀ h' e, Heap.ExtBut it s.heap h' → (∃ o, h'.get? e = some o ∧ o.cls = .type "StopIteration") → E (.ref e) { s with heap := h' }) : wpAny (model prog w) A (callSpecial? (.ref it) "__next__") Q E s := by
  obtain ⟨o, ho, hc, hd⟩ := id hit
  obtain ⟨ol, sP, _, nl, GO⟩ := ha
  have sl := F.slot_tuple_iterator_next
  refine wpAny_callSpecial?_slot (name := Str.ofString "__next__") hit.typeIs sl (wpAny_call_entry sl hit.typeIs F.entry_tuple_iterator_next ?_ (F.args_tuple_iterator_next_1 _))
  have nn : ¬ ((Value.ref a == Value.none) = true) := Bool.false_ne_true
  refine wpAny_bind (m := field (.ref it) 0) (wpAny_field ho hd (x := .ref a) rfl ?_)
  rw [if_neg nn]
  refine wpAny_bind (m := field (.ref it) 1) (wpAny_field ho hd (x := .int i 0) rfl (wpAny_bind (m := seqItems? (.ref a)) (wpAny_seqItems sP GO ?_)))
  simp only [Int.toNat_natCast, hx]
  refine wpAny_bind (wpAny_rule (wpAny_bind (m := setField _ _ _) (wpAny_setField ho hd (by simp) ?_)))
  refine wpAny_bind (m := newExc (.type "StopIteration") []) ?_
  unfold newExc newTuple
  refine wpAny_bind (wpAny_newObj_type ?_ (by size_fits))
  refine wpAny_bind (m := firstArgMember _ _) (wpAny_of_eq (a := Value.none) (by first | rfl | (simp only [firstArgMember]; rfl)) (wpAny_newObj_type ?_ (by size_fits)))
  refine wpAny_raiseNew_none hh ?_
  exact hE _ _ (((Heap.SameBut.update ..).extBut.push _).push _) ⟨_, Heap.get?_push_size _ rfl, rfl⟩
theorem D0 {Q : Value → Shared → Prop} (hit : fD k s.heap it a i) (ha : nJ k s.heap a items) (hx : items[i]? = some x)
    (hQ : ∀ h', fD k h' it a (i + 1) → Heap.SameBut it s.heap h' → Q x { s with heap := h' }) : wpAny (model prog w) A (nextOf (.ref it)) Q E s := by
  cases k with
  | true => exact wpAny_nextOf_list_item hit ha hx hQ
  | false =>
    unfold nextOf
    exact wpAny_bind (Bw hit ha hx fun h' a b => wpAny_pure (hQ h' a b))
theorem D1 {Q : Value → Shared → Prop} (hh : A.handled = none) (hit : fD k s.heap it a i) (ha : nJ k s.heap a items) (hx : items[i]? = none)
    (hE : ∀ h' e, Heap.ExtBut it s.heap h' → (∃ o, h'.get? e = some o ∧ o.cls = .type "StopIteration") → E (.ref e) { s with heap := h' }) : wpAny (model prog w) A (nextOf (.ref it)) Q E s := by
  cases k with
  | true => exact wpAny_nextOf_list_end hh hit ha hx hE
  | false =>
    unfold nextOf
    exact wpAny_bind (By hh hit ha hx hE)
end
section
variable {prog : Program} {w : World} {A : Around} {E : Value → Shared → Prop} {s : Shared} {e it a : Addr} {i : Nat} {items : Array Value} {x old : Value} {k : Bool}
theorem y1 {Q : Value → Shared → Prop} (he : IsEnum s.heap e it i old) (eF : e ≠ it) (hit : fD k s.heap it a i) (ha : nJ k s.heap a items) (hx : items[i]? = some x)
    (hQ : ∀ h', IsEnumOut h' e it ((i : Int) + 1) x s.heap.objs.size → fD k h' it a (i + 1) → h'.get? s.heap.objs.size = some { cls := .type "tuple", data := .seq #[.int i s.toks, x] } →
      (∀ b o, b ≠ e → b ≠ it → s.heap.get? b = some o → h'.get? b = some o) → Q (.ref s.heap.objs.size) { s with heap := h', toks := s.toks + 1 }) :
    wpAny (model prog w) A (Builtin.«enumerate.__next__» ⟨[.ref e], []⟩) (fun fin s' => ∃ v, fin = .done (.ret v) ∧ Q v s') E s := by
  obtain ⟨hp, g, d, tk, os⟩ := s
  refine wpAny_bind (m := field (.ref e) 2) (wpAny_field he rfl (x := .ref it) rfl (wpAny_bind (m := nextOf (.ref it)) (D0 hit ha hx fun h1 GP (GQ : Heap.SameBut it hp h1) => ?_)))
  have e1 : IsEnum h1 e it i old := (GQ.2 e eF).trans he
  refine wpAny_bind (m := field (.ref e) 3) (wpAny_field e1 rfl (x := rawInt i) rfl (wpAny_bind (m := field (.ref e) 4) (wpAny_field e1 rfl (x := .none) rfl (wpAny_bind (m := mkInt i) (wpAny_mkInt ?_)))))
  refine wpAny_bind (m := setField (.ref e) 3 _) (wpAny_setField_rec e1 (by simp) fun h2 (e2 : IsEnum h2 e it ((i : Int) + 1) old) (oM : Heap.SameBut e h1 h2) => ?_)
  refine wpAny_bind (m := setField (.ref e) 4 .none) (wpAny_setField_rec e2 (by simp) fun h3 (e3 : IsEnum h3 e it ((i : Int) + 1) old) (KA : Heap.SameBut e h2 h3) => ?_)
  refine wpAny_bind (m := newTuple [.int i tk, x]) (wpAny_newTuple ?_)
  have z3 : h3.objs.size = hp.objs.size := by rw [KA.1, oM.1, GQ.1]
  have el : e < hp.objs.size := Heap.lt_size he
  have e4 : IsEnum (h3.push { cls := .type "tuple", data := .seq #[.int i tk, x] }) e it ((i : Int) + 1) old := Heap.get?_push_of_some _ e3
  have t4 : (h3.push { cls := .type "tuple", data := .seq #[.int i tk, x] }).get? hp.objs.size = some { cls := .type "tuple", data := .seq #[.int i tk, x] } := z3 ▸ Heap.get?_push_size _ rfl
  have up : ∀ b o, b ≠ e → h1.get? b = some o → (h3.push { cls := .type "tuple", data := .seq #[.int i tk, x] }).get? b = some o := fun b o n q => Heap.get?_push_of_some _ (KA.extBut b o n (oM.extBut b o n q))
  generalize h3.push { cls := .type "tuple", data := .seq #[.int i tk, x] } = h4 at e4 t4 up
  rw [z3]
  refine wpAny_bind (m := ownedTupleIsFree (.ref e)) ?_
  unfold ownedTupleIsFree
  refine wpAny_bind (m := field (.ref e) 0) (wpAny_field e4 rfl (x := .none) rfl (wpAny_pure ?_))
  rw [if_pos rfl]
  refine wpAny_bind (wpAny_rule (wpAny_bind (m := field (.ref e) 5) (wpAny_field e4 rfl (x := old) rfl ?_)))
  refine wpAny_bind (m := setField (.ref e) 5 x) (wpAny_setField_rec e4 (by simp) fun h5 (e5 : IsEnum h5 e it ((i : Int) + 1) x) (Nv : Heap.SameBut e h4 h5) => ?_)
  refine wpAny_bind (m := ownedTupleHandOut (.ref e) _) ?_
  unfold ownedTupleHandOut
  refine wpAny_bind (wpAny_setField_rec e5 (by simp) fun h6 (e6 : IsEnumOut h6 e it ((i : Int) + 1) x hp.objs.size) (Nw : Heap.SameBut e h5 h6) => ?_)
  refine wpAny_setField_rec e6 (by simp) fun h7 (e7 : IsEnumOut h7 e it ((i : Int) + 1) x hp.objs.size) (Nx : Heap.SameBut e h6 h7) => ?_
  have GR : ∀ b o, b ≠ e → h4.get? b = some o → h7.get? b = some o := fun b o n q => Nx.extBut b o n (Nw.extBut b o n (Nv.extBut b o n q))
  refine wpAny_bind (wpAny_letGo (wpAny_pure ⟨_, rfl, hQ h7 e7 (GP.at fun o q => GR it o (Ne.symm eF) (up it o (Ne.symm eF) q)) (GR _ _ (Nat.ne_of_gt el) t4) fun b o n1 n2 q => GR b o n1 (up b o n1 ((GQ.2 b n2).trans q))⟩))
theorem y2 {Q : Option Value → Shared → Prop} (he : IsEnum s.heap e it i old) (eF : e ≠ it) (hit : fD k s.heap it a i) (ha : nJ k s.heap a items) (hx : items[i]? = some x)
    (hQ : ∀ h', IsEnumOut h' e it ((i : Int) + 1) x s.heap.objs.size → fD k h' it a (i + 1) → h'.get? s.heap.objs.size = some { cls := .type "tuple", data := .seq #[.int i s.toks, x] } →
      (∀ b o, b ≠ e → b ≠ it → s.heap.get? b = some o → h'.get? b = some o) → Q (some (.ref s.heap.objs.size)) { s with heap := h', toks := s.toks + 1 }) :
    wpAny (model prog w) A (pyNext (.ref e)) Q E s := by
  have hT : s.TypeIs (.ref e) "enumerate" := ⟨_, he, rfl⟩
  have sl := F.slot_enumerate_next
  unfold pyNext
  exact wpAny_bind (wpAny_attempt (wpAny_callSpecial?_slot (name := Str.ofString "__next__") hT sl (wpAny_call_entry sl hT F.entry_enumerate_next (y1 he eF hit ha hx fun h' a b c d => wpAny_pure (hQ h' a b c d)) (F.args_enumerate_next_1 _))))
theorem y3 {Q : Option Value → Shared → Prop} (hh : A.handled = none) (he : IsEnum s.heap e it i old) (hit : fD k s.heap it a i) (ha : nJ k s.heap a items) (hx : items[i]? = none)
    (hQ : ∀ h', Heap.ExtBut it s.heap h' → Q none { s with heap := h' }) : wpAny (model prog w) A (pyNext (.ref e)) Q E s := by
  have hT : s.TypeIs (.ref e) "enumerate" := ⟨_, he, rfl⟩
  have sl := F.slot_enumerate_next
  unfold pyNext
  refine wpAny_bind (wpAny_attempt (wpAny_callSpecial?_slot (name := Str.ofString "__next__") hT sl (wpAny_call_entry sl hT F.entry_enumerate_next ?_ (F.args_enumerate_next_1 _))))
  refine wpAny_bind (m := field (.ref e) 2) (wpAny_field he rfl (x := .ref it) rfl (wpAny_bind (m := nextOf (.ref it)) (D1 hh hit ha hx fun h' y eb ⟨o, ho, hc⟩ => ?_)))
  exact wpAny_bind (wpAny_isInstance (T := "StopIteration") (b := true) ⟨o, ho, hc⟩ isSubtype_stop (wpAny_pure (hQ _ eb)))
end
end L2
namespace L2
open PySem PySem.Spec PyProof.Rows Builtin.SmallTypes AutoSeq1
theorem sZ : bootBuiltins "enumerate" = some (.type "enumerate") := by decide +kernel
section
variable {X : Cx} {pins : List (Addr × Obj)} {σ : St} {H : Hp} {s : Shared} {h' : Heap}
theorem Inv.pP {t' : Nat} {ch : List Addr} (I : Inv X pins σ H s) (k : ∀ b o, b ∉ ch → s.heap.get? b = some o → h'.get? b = some o) (hf : ∀ b ∈ ch, cY X pins H b) : Inv X pins σ H { s with heap := h', toks := t' } := by
  have xV : ∀ b u, H b = some u → b ∉ ch := fun b u e z => by rw [(hf b z).1] at e; cases e
  refine I.step (g' := s.gens) (d' := s.drawn) (ch := ch) (fun b hb => ?_) (fun b o _ _ hc e _ => k b o hc e) (fun b o _ _ hc e _ => ⟨o.slots, k b o hc e⟩) (fun _ _ _ _ n => n)
    (fun b o hc e => ⟨o, k b o hc e⟩) (fun _ _ e => e) (fun _ _ _ e => e) (fun b ps e => ⟨#[], by rw [e]; simp⟩) (fun m hm => ?_) (fun b u e => ?_) I.bare.self
  · obtain ⟨_, f1, f2, f3, f4, f5⟩ := hf b hb
    exact ⟨f3, f1, f4, f5⟩
  · obtain ⟨o, es, ep, ho, r⟩ := hm
    exact ⟨o, es, ep, k _ o (fun z => (hf _ z).2.1 rfl) ho, r⟩
  · refine (I.hok b u e).bT (fun c v hc q => k c v ?_ q) (fun _ q => q) fun _ _ q => q
    rcases hc with z | z
    · rw [z]; exact xV b u e
    · exact xV c _ z
theorem Inv.pair {t : Addr} {a b : V} {u v : Value} {h1 : Heap} {tk tk0 : Nat} (I0 : Inv X pins σ H { s with toks := tk0 }) (ht : s.heap.objs.size ≤ t) (I : Inv X pins σ H { s with heap := h1, toks := tk }) (e : h1.get? t = some { cls := .type "tuple", data := .seq #[u, v] }) (ru : RelV a u) (rv : RelV b v) :
    Inv X pins σ (upd H t (.tup [a, b])) { s with heap := h1, toks := tk } := by
  have f := Inv.jO (H' := H) I0 (b := t) ht (I0.hok.fresh ht)
  refine I.Jq f.1 ?_ f.2.1 f.2.2.2.2.1 f.2.2.2.2.2 ⟨by show 2 ≤ sizeLine; decide, [u, v], .cons ru (.cons rv .nil), ⟨_, e, rfl, _, rfl, rfl⟩⟩
  exact Heap.get?_none_of_le (Nat.le_trans I0.sz ht)
end
noncomputable def Sq (k : Bool) (K : PySem.W.Frag) (H : Hp) (a : Addr) (xs : List V) : Prop := if k = true then bH K H a xs else cu K H a xs
theorem Inv.sq {X : Cx} {pins : List (Addr × Obj)} {σ : St} {H : Hp} {s : Shared} {k : Bool} {a : Addr} {xs : List V} (I : Inv X pins σ H s) (h : Sq k X.K H a xs) : ∃ its : List Value, Vals xs its ∧ nJ k s.heap a its.toArray := by
  cases k with
  | true => obtain ⟨its, rv, p, _⟩ := I.list (show bH X.K H a xs from h); exact ⟨its, rv, p.isList⟩
  | false => obtain ⟨its, rv, p, _⟩ := I.tuple (show cu X.K H a xs from h); exact ⟨its, rv, p⟩
theorem Inv.GU {X : Cx} {pins : List (Addr × Obj)} {σ : St} {H : Hp} {s : Shared} {k : Bool} {a : Addr} {xs ys : List V} (I : Inv X pins σ H s) (h : Sq k X.K H a xs) (h' : Sq k X.K H a ys) : xs = ys := by
  cases k with
  | true => exact I.sf (show bH X.K H a xs from h) h'
  | false => exact I.qo (show cu X.K H a xs from h) h'
noncomputable def CL (k : Bool) (K : PySem.W.Frag) (a : Addr) : It :=
  ⟨fun i H => ∃ xs x, Sq k K H a xs ∧ xs[i]? = some x, fun i H v H' => ∃ t x, H t = none ∧ v = .ref t ∧ H' = upd H t (.tup [.int (i : Nat), x]) ∧ ∀ xs, Sq k K H a xs → xs[i]? = some x, fun i H => ∃ xs, Sq k K H a xs ∧ xs.length ≤ i⟩
theorem y4 {P : Program} {w : World} {K : PySem.W.Frag} {elts : List Expr} {x1 : Nat} {pos : Pos} (k : Bool) (a it e : Addr) (eF : e ≠ it) :
    Turn P w K (.Tuple elts x1 pos) (CL k K a) [e, it] e (fun i h => (∃ old, IsEnum h e it i old) ∧ fD k h it a i) where
  mem := by simp
  obj := fun i h st b hb => by
    obtain ⟨⟨old, he⟩, hit⟩ := st
    simp only [List.mem_cons, List.not_mem_nil, or_false] at hb
    rcases hb with rfl | rfl
    · exact ⟨_, he, fun v z => nomatch z⟩
    · obtain ⟨o, ho, vs, hd⟩ := hit.obj
      exact ⟨o, ho, fun v z => by rw [hd] at z; cases z⟩
  keep := fun i h h' st q => by
    obtain ⟨⟨old, he⟩, hit⟩ := st
    exact ⟨⟨old, q e (by simp) _ he⟩, hit.at fun o ho => q it (by simp) o ho⟩
  item := by
    intro X hP hw hK hc i pins s σ H E I hf st hg
    subst hP hw hK
    obtain ⟨⟨old, he⟩, hit⟩ := st
    obtain ⟨xs, x, hq, hx⟩ := hg
    obtain ⟨its, rv, p⟩ := I.sq hq
    obtain ⟨u, hu, ru⟩ := rv.get hx
    refine y2 he eF hit p (x := u) (by simpa using hu) fun h1 eo GP t1 kk => ?_
    refine ⟨_, rfl, wpAny_letOwnedTupleGo_enum eo fun h2 e2 (oM : Heap.SameBut e h1 h2) => ?_⟩
    have el : e < s.heap.objs.size := Heap.lt_size he
    have I2 : Inv X pins σ H { s with heap := h2, toks := s.toks + 1 } := I.pP (ch := [e, it]) (fun b o hb q => by
      simp only [List.mem_cons, List.not_mem_nil, or_false, not_or] at hb
      exact (oM.2 b hb.1).trans (kk b o hb.1 hb.2 q)) hf
    have t2 : h2.get? s.heap.objs.size = some { cls := .type "tuple", data := .seq #[.int i s.toks, u] } := (oM.2 _ (Nat.ne_of_gt el)).trans t1
    have hn : H s.heap.objs.size = none := I.hok.fresh (Nat.le_refl _)
    refine ⟨.ref s.heap.objs.size, _, Inv.pair (s := s) (tk0 := s.toks) I (Nat.le_refl _) I2 t2 (a := .int (i : Nat)) ⟨s.toks, rfl⟩ ru, rfl, ⟨_, x, hn, rfl, rfl, fun ys hy => by rw [I.GU hy hq]; exact hx⟩, ⟨⟨u, ?_⟩, GP.at fun o q => (oM.2 it (Ne.symm eF)).trans q⟩, fun b hb => ?_⟩
    · have c : ((i + 1 : Nat) : Int) = (i : Int) + 1 := by push_cast; rfl
      rw [c]
      exact e2
    · have l : b ≠ s.heap.objs.size := by
        simp only [List.mem_cons, List.not_mem_nil, or_false] at hb
        rcases hb with rfl | rfl
        · exact Nat.ne_of_lt el
        · obtain ⟨o, ho, _⟩ := hit.obj
          exact Nat.ne_of_lt (Heap.lt_size ho)
      rw [ae l]
      exact (hf b hb).1
  done := by
    intro X hP hw hK hc i pins s σ H E I hf st hg
    subst hP hw hK
    obtain ⟨⟨old, he⟩, hit⟩ := st
    obtain ⟨xs, hq, hx⟩ := hg
    obtain ⟨its, rv, p⟩ := I.sq hq
    have hl := rv.length
    exact y3 (I.ok.hd hc) he hit p (by simp; omega) fun h1 eb => ⟨rfl, I.pP (t' := s.toks) (ch := [it]) (fun b o hb q => eb b o (by simpa using hb) q) fun b hb => hf b (by simp at hb; simp [hb])⟩
  self := fun _ _ _ _ _ st h => wpAny_pyIter_enum st.1.choose_spec h
noncomputable abbrev y6 (a : Addr) : Obj := { cls := .type "tuple_iterator", data := .fields #[.ref a, .int 0 0] }
noncomputable abbrev GV (it : Addr) : Obj := { cls := .type "enumerate", data := .fields #[.none, .bool false, .ref it, rawInt 0, .none, .none] }
theorem D2 (a : Addr) (items : Array Value) (n : Nat) (dct : Option Addr) (sl : Array (Option Value)) :
    Meets (Builtin.«enumerate.__new__» ⟨[.type "enumerate", .ref a], []⟩) (fun _ R s => s.heap.get? a = some { cls := .type "tuple", dict := dct, data := .seq items n, slots := sl } ∧
      R (.ok (.ret (.ref (s.heap.push (y6 a)).objs.size))) { s with heap := (s.heap.push (y6 a)).push (GV s.heap.objs.size) }) :=
  .of_wp fun prog w A R s h => by
    obtain ⟨hp, g, d, tk, os⟩ := s
    obtain ⟨hl, h⟩ := h
    have sO := sub_enumerate
    have hT : Heap.IsTuple (Shared.heap ⟨hp, g, d, tk, os⟩) a items := ⟨_, hl, rfl, n, rfl⟩
    wp_walk using wpAny_loadPart' hl
    refine wpAny_stack_any fun st => wpAny_pure ?_
    split
    case h_1 c _ _ _ _ _ => cases (c == Value.type "enumerate") <;> (wp_walk using wpAny_loadPart' hl, wpAny_pyIter_tuple hT; exact ⟨_, rfl, h⟩)
    case h_2 => wp_walk using wpAny_loadPart' hl, wpAny_pyIter_tuple hT; exact ⟨_, rfl, h⟩
section
variable {prog : Program} {w : World} {A : Around} {E : Value → Shared → Prop} {s : Shared}
theorem wM {a : Addr} {items : Array Value} {Q : Value → Shared → Prop} (hT : s.heap.IsTuple a items)
    (h : ∀ h', IsEnum h' (s.heap.objs.size + 1) s.heap.objs.size 0 .none → h'.IsTupleIter s.heap.objs.size a 0 → (∀ b o, s.heap.get? b = some o → h'.get? b = some o) → Q (.ref (s.heap.objs.size + 1)) { s with heap := h' }) :
    wpAny (model prog w) A (call (.type "enumerate") [.ref a]) Q E s := by
  obtain ⟨ob, ho, hc, n, hd⟩ := hT
  obtain ⟨c, dd, dt, sl⟩ := ob
  dsimp only at hc hd
  subst hc hd
  refine callType_new F.called_enumerate (by decide) (F.typeCall_enumerate_1 _) (F.newCall_enumerate_1 _) (fun obj => F.args_object_init_2 obj _) F.entry_enumerate_new (D2 a items n dd sl) ⟨ho, ?_⟩
  have z : (s.heap.push (y6 a)).objs.size = s.heap.objs.size + 1 := Heap.size_push ..
  have he : ((s.heap.push (y6 a)).push (GV s.heap.objs.size)).get? (s.heap.objs.size + 1) = some (GV s.heap.objs.size) := z ▸ Heap.get?_push_size (s.heap.push (y6 a)) rfl
  show _ ∧ _
  rw [z]
  exact ⟨⟨_, he, rfl⟩, h _ he ⟨_, Heap.get?_push_of_some _ (Heap.get?_push_size _ rfl), rfl, rfl⟩ fun b o x => Heap.get?_push_of_some _ (Heap.get?_push_of_some _ x)⟩
theorem y7 {k : Bool} {a : Addr} {items : Array Value} {Q : Value → Shared → Prop} (hT : nJ k s.heap a items)
    (h : ∀ h', IsEnum h' (s.heap.objs.size + 1) s.heap.objs.size 0 .none → fD k h' s.heap.objs.size a 0 → (∀ b o, s.heap.get? b = some o → h'.get? b = some o) → Q (.ref (s.heap.objs.size + 1)) { s with heap := h' }) :
    wpAny (model prog w) A (call (.type "enumerate") [.ref a]) Q E s := by
  cases k with
  | true => exact call_enumerate_list hT fun h' a b _ c => h h' a b c
  | false => exact wM hT h
end
section
variable {X : Cx} {l : Expr} {tl : TE} {elts : List Expr} {x1 : Nat} {tp p pos : Pos}
noncomputable def Js (k : Bool) (K : PySem.W.Frag) (tl : TE) : TI := fun σ H R => tl σ H fun x H1 => ∃ a, x = .ref a ∧ (∃ xs, Sq k K H1 a xs) ∧ R (CL k K a) H1
theorem D3 (k : Bool) {K : PySem.W.Frag} (hK : X.K = K) (hg : Gl X "enumerate") (hm : X.mg "enumerate" = none) (hl : PE X l tl) (hs : starEach [l] X.env = [(false, eval l X.env)] := by rfl) :
    PI X (.Tuple elts x1 tp) (.Call (.Name "enumerate" p) [l] [] pos) (Js k K tl) := by
  subst hK
  intro pins s σ H R I h
  refine wpAny_Call_Name_kw (f6 I hg hm sZ ?_)
  refine PyProof.Rows.callWith_type1 ?_ hs rfl
  rw [hs]
  refine Calls.spliced_cons (thn (hl pins s σ H _ I h) fun v s1 ⟨x, H1, I1, r1, q1⟩ => Calls.spliced_nil ?_)
  obtain ⟨a, rfl, ⟨xs, hq⟩, q⟩ := q1
  cases (show v = Value.ref a from r1)
  obtain ⟨its, rv, sq⟩ := I1.sq hq
  refine y7 sq fun h' he hit kk => ?_
  refine wpAny_pyIter_enum he ?_
  have I2 : Inv X pins σ H1 { s1 with heap := h' } := I1.kept (t' := s1.toks) kk
  have ne : s1.heap.objs.size + 1 ≠ s1.heap.objs.size := Nat.ne_of_gt (Nat.lt_succ_self _)
  refine ⟨_, [s1.heap.objs.size + 1, s1.heap.objs.size], _, CL k X.K a, H1, rfl, I2, y4 k a _ _ ne, ⟨⟨_, he⟩, hit⟩, fun b hb => ?_, q⟩
  simp only [List.mem_cons, List.not_mem_nil, or_false] at hb
  rcases hb with rfl | rfl
  · exact I1.jO (Nat.le_succ _) (I1.hok.fresh (Nat.le_succ _))
  · exact I1.jO (Nat.le_refl _) (I1.hok.fresh (Nat.le_refl _))
end
noncomputable def wN (J : It) (ys : List (V × V)) (H : Hp) : Prop := ∀ i, (i < ys.length → J.go i H ∧ ∀ x H', J.yld i H x H' → ∃ t p, H t = none ∧ x = .ref t ∧ ys[i]? = some p ∧ H' = upd H t (.tup [p.1, p.2])) ∧ (ys.length ≤ i → J.stop i H)
theorem qS {k : Bool} {K : PySem.W.Frag} {a : Addr} {ys : List V} {H : Hp} (h : Sq k K H a ys) : wN (CL k K a) ((List.range ys.length).map fun i => (V.int (i : Nat), ys.getD i .ao)) H := fun i => by
  have el : ((List.range ys.length).map fun i => (V.int (i : Nat), ys.getD i .ao)).length = ys.length := by simp
  rw [el]
  refine ⟨fun hi => ⟨⟨ys, ys[i], h, List.getElem?_eq_getElem hi⟩, fun x H' ⟨t, y, n, e1, e2, e3⟩ => ⟨t, (.int (i : Nat), y), n, e1, ?_, e2⟩⟩, fun hi => ⟨ys, h, hi⟩⟩
  rw [List.getElem?_map, List.getElem?_range hi]
  have := e3 ys h
  show some (V.int (i : Nat), ys.getD i .ao) = _
  rw [List.getD_eq_getElem?_getD, this]
  rfl
end L2
namespace L2
open PySem PySem.Spec PyProof.Rows
section
variable {X : Cx} {st : Stmt} {ι : Type} {Pre : ι → St → Hp → Prop} {D : ι → Ends}
theorem rK {P : Program} {w : World} {K : PySem.W.Frag} (hP : X.prog = P) (hw : X.w = w) (h : X.K = K) (hc : X.calm = true) : de X (.builtin "sorted") (vo P w K) := by
  subst hP hw h
  exact sX hc
end
section
variable {κ : Type} [DecidableEq κ]
noncomputable def ir (aq : List (κ × V)) (k : κ) : Option V := (aq.find? fun kv => decide (kv.1 = k)).map (·.2)
noncomputable def putK (aq : List (κ × V)) (k : κ) (v : V) : List (κ × V) :=
  if (aq.any fun kv => decide (kv.1 = k)) = true then aq.map (fun kv => if kv.1 = k then (kv.1, v) else kv) else aq ++ [(k, v)]
theorem kh {p : κ × V} {r : List (κ × V)} {k : κ} (e : p.1 = k) : ir (p :: r) k = some p.2 := by simp [ir, List.find?_cons, e]
theorem ki {p : κ × V} {r : List (κ × V)} {k : κ} (e : ¬ p.1 = k) : ir (p :: r) k = ir r k := by simp [ir, List.find?_cons, e]
theorem nK (k : κ) : ∀ aq : List (κ × V), (aq.any fun kv => decide (kv.1 = k)) = (ir aq k).isSome
  | [] => rfl
  | p :: r => by
    rw [List.any_cons]
    by_cases e : p.1 = k
    · simp only [kh e, decide_eq_true e, Bool.true_or, Option.isSome_some]
    · rw [ki e, decide_eq_false e, Bool.false_or]; exact nK k r
theorem m8 (aq : List (κ × V)) (k : κ) (v : V) : (putK aq k v).length ≤ aq.length + 1 := by
  unfold putK
  split
  · rw [List.length_map]; omega
  · rw [List.length_append, List.length_cons, List.length_nil]; omega
theorem iS.lu {o : Option V} {u : Option Value} (r : iS o u) : o.isSome = u.isSome := by
  cases o with
  | none => cases u with
    | none => rfl
    | some _ => exact (show False from r).elim
  | some _ => cases u with
    | none => exact (show False from r).elim
    | some _ => rfl
theorem KV.val {aq : List (κ × V)} {vs : List (κ × Value)} (r : KV aq vs) (k : κ) : iS (ir aq k) (valueAt vs k) := by
  unfold KV at r
  induction r with
  | nil => exact True.intro
  | @cons p q ps qs h t ih =>
    obtain ⟨h1, h2⟩ := h
    by_cases e : p.1 = k
    · have e' : q.1 = k := h1.symm.trans e
      have b : valueAt (q :: qs) k = some q.2 := by simp [valueAt, List.find?_cons, e']
      rw [kh e, b]; exact h2
    · have e' : ¬ q.1 = k := fun z => e (h1.trans z)
      have b : valueAt (q :: qs) k = valueAt qs k := by simp [valueAt, List.find?_cons, e']
      rw [ki e, b]; exact ih
theorem KV.any {aq : List (κ × V)} {vs : List (κ × Value)} (r : KV aq vs) (k : κ) : (aq.any fun kv => decide (kv.1 = k)) = vs.any fun kv => decide (kv.1 = k) := by
  unfold KV at r
  induction r with
  | nil => rfl
  | cons h t ih => rw [List.any_cons, List.any_cons, ih, h.1]
theorem KV.repl {aq : List (κ × V)} {vs : List (κ × Value)} (r : KV aq vs) (k : κ) {y : V} {u : Value} (ry : RelV y u) :
    KV (aq.map fun kv => if kv.1 = k then (kv.1, y) else kv) (vs.map fun kv => if kv.1 = k then (kv.1, u) else kv) := by
  unfold KV at r ⊢
  induction r with
  | nil => exact .nil
  | @cons p q ps qs h t ih =>
    rw [List.map_cons, List.map_cons]
    refine .cons ?_ ih
    obtain ⟨h1, h2⟩ := h
    by_cases e : p.1 = k
    · rw [if_pos e, if_pos (h1.symm.trans e)]; exact ⟨h1, ry⟩
    · rw [if_neg e, if_neg (fun z => e (h1.trans z))]; exact ⟨h1, h2⟩
theorem KV.put {aq : List (κ × V)} {vs : List (κ × Value)} (r : KV aq vs) (k : κ) {y : V} {u : Value} (ry : RelV y u) : KV (putK aq k y) (stored vs k u) := by
  unfold putK stored
  rw [r.any k]
  by_cases e : (vs.any fun kv => decide (kv.1 = k)) = true
  · rw [if_pos e, if_pos e]; exact r.repl k ry
  · rw [if_neg e, if_neg e]; exact Paired.snoc r ⟨rfl, ry⟩
theorem KV.length {aq : List (κ × V)} {vs : List (κ × Value)} (r : KV aq vs) : aq.length = vs.length := Paired.length r
end
theorem rU {P : Program} {w : World} {k : Key} {u : Value} (r : RelV (kV k) u) : (bO P w).is k u = true := by
  cases k with
  | inl i => obtain ⟨t, e⟩ := (show ∃ t, u = Value.int i t from r); subst e; exact uD P w i t
  | inr x => obtain ⟨t, e⟩ := (show ∃ t, u = Value.str x t from r); subst e; exact uE P w x t
theorem qT {P : Program} {w : World} : ∀ {ks : List Key} {us : List Value}, Vals (ks.map kV) us → ItemsAre (bO P w) ks us
  | [], _, r => by rw [List.map_nil] at r; cases r; exact .nil
  | k :: ks, _, r => by
    rw [List.map_cons] at r
    cases r with
    | cons h t => exact .cons (rU h) (qT t)
noncomputable abbrev KT (H : Hp) : List (List Key × V) → List (List Key × Addr × Value) → Prop := Paired fun p q => p.1 = q.1 ∧ H q.2.1 = some (.tup (p.1.map kV)) ∧ RelV p.2 q.2.2
theorem KT.val {H : Hp} {aq : List (List Key × V)} {xs : List (List Key × Addr × Value)} (r : KT H aq xs) (k : List Key) : iS (ir aq k) ((atKey xs k).map (·.2)) := by
  induction r with
  | nil => exact True.intro
  | @cons p q ps qs h t ih =>
    obtain ⟨h1, _, h2⟩ := h
    by_cases e : p.1 = k
    · have e' : q.1 = k := h1.symm.trans e
      have b : atKey (q :: qs) k = some q.2 := by simp [atKey, List.find?_cons, e']
      rw [kh e, b]; exact h2
    · have e' : ¬ q.1 = k := fun z => e (h1.trans z)
      have b : atKey (q :: qs) k = atKey qs k := by simp [atKey, List.find?_cons, e']
      rw [ki e, b]; exact ih
theorem KT.repl {H : Hp} {aq : List (List Key × V)} {xs : List (List Key × Addr × Value)} (r : KT H aq xs) (k : List Key) {y : V} {u : Value} (ry : RelV y u) :
    KT H (aq.map fun kv => if kv.1 = k then (kv.1, y) else kv) (xs.map (putAt k u)) := by
  induction r with
  | nil => exact .nil
  | @cons p q ps qs h t ih =>
    rw [List.map_cons, List.map_cons]
    refine .cons ?_ ih
    obtain ⟨h1, h2, h3⟩ := h
    unfold putAt
    by_cases e : p.1 = k
    · rw [if_pos e, if_pos (h1.symm.trans e)]; exact ⟨h1, h2, ry⟩
    · rw [if_neg e, if_neg (fun z => e (h1.trans z))]; exact ⟨h1, h2, h3⟩
theorem KT.put {H : Hp} {aq : List (List Key × V)} {xs : List (List Key × Addr × Value)} (r : KT H aq xs) (k : List Key) {b : Addr} {y : V} {u : Value} (hb : H b = some (.tup (k.map kV))) (ry : RelV y u) :
    KT H (putK aq k y) (storedH xs k b u) := by
  have e : (aq.any fun kv => decide (kv.1 = k)) = (atKey xs k).isSome := by
    rw [nK, (r.val k).lu, Option.isSome_map]
  unfold putK storedH
  rw [e]
  by_cases q : (atKey xs k).isSome = true
  · rw [if_pos q, if_pos q]; exact r.repl k ry
  · rw [if_neg q, if_neg q]; exact Paired.snoc r ⟨rfl, hb, ry⟩
theorem KT.keeps {H H' : Hp} {aq : List (List Key × V)} {xs : List (List Key × Addr × Value)} (r : KT H aq xs) (ht : ∀ b ys, H b = some (.tup ys) → H' b = some (.tup ys)) : KT H' aq xs :=
  Paired.AB r fun _ _ z => ⟨z.1, ht _ _ z.2.1, z.2.2⟩
section
variable {P : Program} {w : World} {H : Hp} {h : Heap} {a : Addr}
theorem CM {u : HO} (ok : cp P w H h) (e : Rd H a u) : ObjOk P w H h a u := e.ok ok
theorem rV {aq : List (Key × V)} (ok : cp P w H h) (e : Rd H a (.dK aq)) : aq.length ≤ sizeLine ∧ (a == sysModules) = false ∧ ∃ vs, KV aq vs ∧ h.DictOf (bO P w) a vs :=
  show ObjOk P w H h a (.dK aq) from CM ok e
theorem Jt {aq : List (Key × V)} (ok : cp P w H h) (e : H a = some (.dK aq)) : aq.length ≤ sizeLine ∧ (a == sysModules) = false ∧ ∃ vs, KV aq vs ∧ h.DictOf (bO P w) a vs := rV ok (.inl e)
theorem lx {ks : List Key} (ok : cp P w H h) (e : H a = some (.tup (ks.map kV))) : (tupleKind (bO P w)).is h ks a := by
  obtain ⟨_, its, r, o, h1, h2, n, h3, _⟩ := (show ObjOk P w H h a (.tup (ks.map kV)) from ok a _ e)
  exact ⟨o, its.toArray, n, h1, h2, h3, by simpa using qT r⟩
theorem oN {aq : List (List Key × V)} (ok : cp P w H h) (e : Rd H a (.dT aq)) : aq.length ≤ sizeLine ∧ (a == sysModules) = false ∧
    ∃ xs, KT H aq xs ∧ h.DictOfH (tupleKind (bO P w)) a xs := by
  obtain ⟨z, y, xs, r, o, es, ep, h1, h2, h3, h4, h5⟩ := (show ObjOk P w H h a (.dT aq) from CM ok e)
  refine ⟨z, y, xs, r, o, es, ep, h1, h2, h3, h4, fun x hx => ?_, h5⟩
  have all : ∀ {l : List (List Key × V)} {m : List (List Key × Addr × Value)}, KT H l m → ∀ x ∈ m, (tupleKind (bO P w)).is h x.1 x.2.1 := by
    intro l m q
    induction q with
    | nil => intro x hx; exact nomatch hx
    | @cons p q ps qs hq t ih =>
      intro x hx
      rcases List.mem_cons.mp hx with e | hx
      · subst e
        exact lx ok (by rw [← hq.1]; exact hq.2.1)
      · exact ih x hx
  exact all r x hx
theorem CN {aq : List (List Key × V)} (ok : cp P w H h) (e : H a = some (.dT aq)) : aq.length ≤ sizeLine ∧ (a == sysModules) = false ∧
    ∃ xs, KT H aq xs ∧ h.DictOfH (tupleKind (bO P w)) a xs := oN ok (.inl e)
end
noncomputable def pQ (H : Hp) (a : Addr) (y : V) (r : Option V) : Prop :=
  (∃ aq k, Rd H a (.dK aq) ∧ y = kV k ∧ r = ir aq k) ∨ ∃ aq k b, Rd H a (.dT aq) ∧ y = .ref b ∧ H b = some (.tup (k.map kV)) ∧ r = ir aq k
noncomputable def GW (H : Hp) (a : Addr) (y v : V) (H' : Hp) : Prop :=
  (∃ aq k, H a = some (.dK aq) ∧ y = kV k ∧ aq.length < sizeLine ∧ H' = upd H a (.dK (putK aq k v))) ∨
  ∃ aq k b, H a = some (.dT aq) ∧ y = .ref b ∧ H b = some (.tup (k.map kV)) ∧ aq.length < sizeLine ∧ H' = upd H a (.dT (putK aq k v))
section
variable {X : Cx} {pins : List (Addr × Obj)} {σ : St} {H : Hp} {s : Shared} {a : Addr} {y v : V} {u r : Value} {o : Option V} {A : Around} {E : Value → Shared → Prop}
theorem Inv.big (I : Inv X pins σ H s) : sysModules < s.heap.objs.size := by
  have h : mainGlobals < s.heap.objs.size := (I.mod.glob.keeps I.bk).lt
  exact Nat.lt_trans (by decide) h
theorem y8 {Q : Value → Shared → Prop} (hu : A.units + 1 < cLine) (I : Inv X pins σ H s) (g : pQ H a y (some v)) (ry : RelV y u) (h : ∀ w' s', Inv X pins σ H s' → RelV v w' → Q w' s') :
    wpAny (model X.prog X.w) A (getItem (.ref a) u) Q E s := by
  rcases g with ⟨aq, k, e, ey, l⟩ | ⟨aq, k, b, e, ey, eb, l⟩
  · subst ey
    obtain ⟨z, hd, vs, rel, dd⟩ := rV I.hok e
    obtain ⟨w', hw, jV⟩ := iS.some_of (v := v) (o := valueAt vs k) (by rw [l]; exact rel.val k)
    exact wpAny_getItem_of (rU ry) dd.mapOf hw (h w' _ (I.tok _) jV)
  · subst ey
    cases (show u = Value.ref b from ry)
    obtain ⟨z, hd, xs, rel, dd⟩ := oN I.hok e
    obtain ⟨w', hw, jV⟩ := iS.some_of (v := v) (o := (atKey xs k).map (·.2)) (by rw [l]; exact rel.val k)
    obtain ⟨p, hp, y9⟩ := Option.map_eq_some_iff.mp hw
    refine wpAny_getItem_heap (tupleKind_room_in1 hu) (lx I.hok eb) dd hp ?_
    rw [y9]
    exact h w' _ (I.tok _) jV
theorem D4 {Q : Value → Shared → Prop} (hu : A.units + 1 < cLine) (I : Inv X pins σ H s) (g : pQ H a y o) (ry : RelV y u) (h : ∀ s', Inv X pins σ H s' → Q (.bool (!o.isSome)) s') :
    wpAny (model X.prog X.w) A (compareOp .NotIn u (.ref a)) Q E s := by
  rcases g with ⟨aq, k, e, ey, l⟩ | ⟨aq, k, b, e, ey, eb, l⟩
  · subst ey
    obtain ⟨z, hd, vs, rel, dd⟩ := rV I.hok e
    refine wpAny_notIn_of (rU ry) hd dd.mapOf ?_
    rw [← (rel.val k).lu, ← l]
    exact h _ (I.tok _)
  · subst ey
    cases (show u = Value.ref b from ry)
    obtain ⟨z, hd, xs, rel, dd⟩ := oN I.hok e
    refine wpAny_notIn_heap (tupleKind_room_in1 hu) (lx I.hok eb) hd dd ?_
    have q := (rel.val k).lu
    rw [Option.isSome_map] at q
    rw [← q, ← l]
    exact h _ (I.tok _)
theorem pR {h' : Heap} {t' : Nat} {ob : HO} (I : Inv X pins σ H s) (mu : xS (H a)) (hs : Heap.SameBut a s.heap h') (he : ∃ q, h'.get? a = some q) (new : ObjOk X.prog X.w (upd H a ob) h' a ob) :
    Inv X pins σ (upd H a ob) { s with heap := h', toks := t' } :=
  I.write (x := a) (e := a) mu (.inl rfl) (fun b q hb z => (hs.2 b hb).trans z) he new
theorem GX {P : Program} {w : World} {H' : Hp} {h' : Heap} {aq : List (Key × V)} {vs : List (Key × Value)} (z : aq.length ≤ sizeLine) (hd : (a == sysModules) = false) (rel : KV aq vs) (dd : h'.DictOf (bO P w) a vs) :
    ObjOk P w H' h' a (.dK aq) := ⟨z, hd, vs, rel, dd⟩
theorem zb {H' : Hp} {Q : Unit → Shared → Prop} (hu : A.units + 1 < cLine) (I : Inv X pins σ H s) (g : GW H a y v H') (ry : RelV y u) (rv : RelV v r) (h : ∀ s', Inv X pins σ H' s' → Q () s') :
    wpAny (model X.prog X.w) A (setItem (.ref a) u r) Q E s := by
  rcases g with ⟨aq, k, e, ey, l, eH⟩ | ⟨aq, k, b, e, ey, eb, l, eH⟩
  · subst ey eH
    obtain ⟨z, hd, vs, rel, dd⟩ := Jt I.hok e
    have hz : vs.length ≤ sizeLine := by rw [← rel.length]; exact z
    have hl : (putK aq k v).length ≤ sizeLine := by have := m8 aq k v; omega
    refine wpAny_setItem_pairs (hsz := hz) (rU ry) dd fun h' vp hs => h _ ?_
    have he : ∃ q, h'.get? a = some q := let ⟨q, _, _, hq, _⟩ := vp; ⟨q, hq⟩
    exact pR I (by rw [e]; exact True.intro) hs he (GX hl hd (rel.put k rv) vp)
  · subst ey eH
    cases (show u = Value.ref b from ry)
    obtain ⟨z, hd, xs, rel, dd⟩ := CN I.hok e
    have hz : xs.length ≤ sizeLine := by rw [← Paired.length rel]; exact z
    have hl : (putK aq k v).length ≤ sizeLine := by have := m8 aq k v; omega
    refine wpAny_setItem_heap (hsz := hz) (tupleKind_room_in1 hu) (lx I.hok eb) dd fun h' vp hs => h _ ?_
    obtain ⟨q, es, ep, hq, h2, h3, h4, _, h5⟩ := vp
    refine pR I (by rw [e]; exact True.intro) hs ⟨q, hq⟩ ⟨hl, hd, _, (rel.put k eb rv).keeps fun c ys ec => ?_, q, es, ep, hq, h2, h3, h4, h5⟩
    rw [ae (vU ec e (fun z => nomatch z))]
    exact ec
end
noncomputable def BA (i : Expr) : Prop := ∀ ov iv, subscripted i false ov iv = operate [ov, iv] (getItem ov iv)
theorem D5 {prog : Program} {w : World} {A : Around} {E : Value → Shared → Prop} {s : Shared} {env : Env} {value slice : Expr} {pos : Pos} {T id : String} {Q : Value → Shared → Prop}
    (hl : typeLookup (.type T) "__getitem__" = pure (some (.builtin id))) (hs : BA slice)
    (h : wpAny (model prog w) A (eval value env) (fun o az => wpAny (model prog w) A (eval slice env) (fun i gI => gI.TypeIs o T ∧ wpAny (model prog w) A (getItem o i) Q E gI) E az) E s) :
    wpAny (model prog w) A (eval (.Subscript value slice pos) env) Q E s := by
  refine Subscript_ (wpAny_mono h (fun o az di => wpAny_mono di (fun i gI BC => ?_) fun _ _ x => x) fun _ _ x => x)
  obtain ⟨hT, BC⟩ := BC
  unfold subscriptTail
  refine wpAny_bind ?_
  rw [getitemInPython_of_ne hT.not_modules]
  refine wpAny_bind (wpAny_specialOf hT hl ?_)
  have fin : wpAny (model prog w) A (subscripted slice false o i) (fun r dG => wpAny (model prog w) A (letTemporaryGo value o r >>= fun _ => pure r) Q E dG) E gI := by
    rw [hs o i]
    exact wpAny_operating (wpAny_mono BC (fun r dG L6 => wpAny_bind (wpAny_letTemporaryGo (wpAny_pure L6))) fun _ _ x => x)
  first
    | exact wpAny_pure (wpAny_bind fin)
    | exact wpAny_bind (wpAny_pure (wpAny_bind fin))
    | exact wpAny_bind fin
theorem uO {X : Cx} {pins : List (Addr × Obj)} {σ : St} {H : Hp} {s : Shared} {a : Addr} {y : V} {o : Option V} (I : Inv X pins σ H s) (g : pQ H a y o) : s.TypeIs (.ref a) "dict" := by
  rcases g with ⟨aq, k, e, _, _⟩ | ⟨aq, k, b, e, _, _, _⟩
  · obtain ⟨_, _, vs, _, dd⟩ := rV I.hok e
    exact dd.typeIs
  · obtain ⟨_, _, xs, _, dd⟩ := oN I.hok e
    exact dd.typeIs
noncomputable def Ju (td ty : TE) : TE := fun σ H Q => td σ H fun x H1 => ty σ H1 fun y H2 => ∃ a v, x = .ref a ∧ pQ H2 a y (some v) ∧ Q v H2
noncomputable def Jv (td ty tv : TE) : TS := fun D σ H => tv σ H fun v H1 => td σ H1 fun x H2 => ty σ H2 fun y H3 => ∃ a H4, x = .ref a ∧ GW H3 a y v H4 ∧ D.nx σ H4
section
variable {X : Cx} {o i e value : Expr} {pos pos' Ph : Pos} {td ty tv : TE}
theorem D6 (hu : X.A.units + 1 < cLine) (ho : PE X o td) (hi : PE X i ty) (hs : BA i) : PE X (.Subscript o i pos) (Ju td ty) := by
  refine ⟨?_⟩
  intro pins s σ H Q I h
  refine D5 PySem.F.slot_dict_getitem.lookup hs (thn (ho pins s σ H _ I h) fun u s1 ⟨x, H1, I1, rx, q1⟩ => thn (hi pins s1 σ H1 _ I1 q1) fun iv s2 ⟨y, H2, I2, ry, a, v, ex, g, q2⟩ => ?_)
  subst ex
  obtain rfl : u = Value.ref a := rx
  exact ⟨uO I2 g, y8 hu I2 g ry fun w' s3 I3 jV => ⟨v, H2, I3, jV, q2⟩⟩
theorem D7 (hu : X.A.units + 1 < cLine) (ho : PE X o td) (hi : PE X i ty) (hv : PE X value tv) (hs : swapsWith value (some (.Subscript o i pos')) pos.line X.env = pure false) :
    PS X (.Assign [.Subscript o i pos'] value pos) (Jv td ty tv) := by
  refine ⟨?_⟩
  intro pins s σ H D I h
  refine wpAny_Assign_Subscript (thn (hv pins s σ H _ I h) fun r s1 ⟨v, H1, I1, rv, q1⟩ => thn (ho pins s1 σ H1 _ I1 q1) fun u s2 ⟨x, H2, I2, rx, q2⟩ => thn (hi pins s2 σ H2 _ I2 q2) fun iv s3 ⟨y, H3, I3, ry, a, H4, ex, g, q3⟩ => ?_) hs
  subst ex
  obtain rfl : u = Value.ref a := rx
  exact zb hu I3 g ry rv fun s4 I4 => ⟨σ, H4, I4, q3⟩
end
theorem BD {P : Program} {w : World} {H : Hp} (h : Heap) (hb : sysModules < h.objs.size) : ObjOk P w H (h.push { cls := .type "dict", data := .dict #[] }) h.objs.size (.dT []) :=
  ⟨Nat.zero_le _, beq_eq_false_iff_ne.mpr (Ne.symm (Nat.ne_of_lt hb)), [], .nil, _, #[], 0, Heap.get?_push_size _ rfl, ⟨rfl, rfl, rfl⟩, rfl, rfl, List.nodup_nil⟩
structure M1 (X : Cx) (o : Expr) (m : Str) (apos : Pos) (e : Expr) (aW : Pos) : Prop where
  base : attributeBase o m X.env (eval o X.env) = eval o X.env
  few : ((backTo aW (starEach [e] X.env)).all (fun x => !x.1) && (backToKw aW (keywordEach [] X.env)).all (fun x => x.1.isSome)
    && decide (([e] : List Expr).length + ([] : List Keyword).length + (if ([] : List Keyword).isEmpty then 0 else 1) < 30)) = true
  line : (apos.endLine == aW.line) = true
  trees : backTo aW (starEach [e] X.env) = [(false, eval e X.env)]
structure M2 (X : Cx) (o : Expr) (m : Str) (apos : Pos) (e f : Expr) (aW : Pos) : Prop where
  base : attributeBase o m X.env (eval o X.env) = eval o X.env
  few : ((backTo aW (starEach [e, f] X.env)).all (fun x => !x.1) && (backToKw aW (keywordEach [] X.env)).all (fun x => x.1.isSome)
    && decide (([e, f] : List Expr).length + ([] : List Keyword).length + (if ([] : List Keyword).isEmpty then 0 else 1) < 30)) = true
  line : (apos.endLine == aW.line) = true
  trees : backTo aW (starEach [e, f] X.env) = [(false, eval e X.env), (false, eval f X.env)]
inductive Dv where
  | int (i : Int) | bl (b : Bool) | ao | str (z : Str) | tup (xs : List Dv) | lst (xs : List Dv) | set (ns : List Int) | ptr (a : Addr) | exc (C : Addr) | bq (ns : List Int) | raw (v : V) | dk (ks : List Key) (ds : List Dv) | dt (ks : List (List Key)) (ds : List Dv) | bI (f : Addr) (o : Obj) (c : Addr) (oc : Obj) (vs : List V) (ds : List Dv)
inductive Mo where
  | lst (xs : List Dv) | c6 | dk (ks : List Key) (ds : List Dv) | dt (ks : List (List Key)) (ds : List Dv)
noncomputable abbrev Mh := Addr → Option Mo
structure cP where
  g : List Addr
  l : List (Addr × Str)
instance : Membership Addr cP := ⟨fun t a => a ∈ t.g⟩
noncomputable def CO : HO → Bool
  | .cC _ => true
  | .lam _ => true
  | .dK _ => true
  | .dT _ => true
  | _ => false
noncomputable def zf : HO → Bool
  | .cC _ => false
  | _ => true
noncomputable def i9 : HO → Bool
  | .dK _ => true
  | .dT _ => true
  | _ => false
theorem Rd.map {H H' : Hp} {a : Addr} {u : HO} (e : Rd H a u) (k : ∀ x, H a = some x → H' a = some x) : Rd H' a u := e.imp (k _) fun ⟨o, h⟩ => ⟨o, k _ h⟩
theorem Rd.GY {H H' : Hp} {a : Addr} {u : HO} (e : Rd H a u) (hu : i9 u = true) (k : ∀ x, zf x = true → H a = some x → H' a = some x) : Rd H' a u := e.imp (k _ (by cases u <;> first | rfl | cases hu)) fun ⟨o, h⟩ => ⟨o, k _ rfl h⟩
theorem Rd.there {H : Hp} {a : Addr} {u : HO} (e : Rd H a u) : ∃ x, H a = some x := e.elim (fun h => ⟨_, h⟩) fun ⟨o, h⟩ => ⟨_, h⟩
noncomputable def Tg (o o' : HO) : Prop := (∃ ps gp : Array Value, o = .cC ps ∧ o' = .cC gp ∧ TriplesOk gp.toList) ∨ (∃ ps gp : Array Value, o = .lam ps ∧ o' = .lam gp) ∨ (i9 o = true ∧ ∃ ob, o' = .bD ob o)
theorem Tg.trans {a b c : HO} (x : Tg a b) (y : Tg b c) : Tg a c := by
  rcases x with ⟨p, q, rfl, rfl, t⟩ | ⟨p, q, rfl, rfl⟩ | ⟨hd, ob, rfl⟩
  · rcases y with ⟨p2, q2, e, rfl, t2⟩ | ⟨p2, q2, e, _⟩ | ⟨e, _⟩
    · exact .inl ⟨p, q2, rfl, rfl, t2⟩
    · cases e
    · cases e
  · rcases y with ⟨p2, q2, e, _⟩ | ⟨p2, q2, e, rfl⟩ | ⟨e, _⟩
    · cases e
    · exact .inr (.inl ⟨p, q2, rfl, rfl⟩)
    · cases e
  · rcases y with ⟨p2, q2, e, _⟩ | ⟨p2, q2, e, _⟩ | ⟨e, _⟩ <;> cases e
theorem Tg.tab {a b : HO} (x : Tg a b) : CO a = true := by
  rcases x with ⟨p, q, rfl, rfl, _⟩ | ⟨p, q, rfl, rfl⟩ | ⟨hd, ob, rfl⟩
  · rfl
  · rfl
  · cases a <;> first | rfl | cases hd
noncomputable def L7 (H : Hp) (q : Str) (cv : Value) : Prop := ∃ (c : Addr) (oc : Obj) (u : HO) (vs : Array Value) (t : Tok), cv = Value.ref c ∧ H c = some (.bD oc u) ∧ oc.data = .fields vs ∧ vs[1]? = some (Value.str q t)
noncomputable def Lm (H : Hp) (p : Addr × Str) : Prop := ∃ ps : Array Value, H p.1 = some (.lam ps) ∧ TriplesOk ps.toList ∧ ∀ pos cv, codeAmong pos ps.toList = some cv → L7 H p.2 cv
theorem Lm.keep {H H' : Hp} {p : Addr × Str} (h : Lm H p) (k1 : ∀ ps, H p.1 = some (.lam ps) → H' p.1 = some (.lam ps)) (k2 : ∀ c oc u, H c = some (.bD oc u) → H' c = some (.bD oc u)) : Lm H' p := by
  obtain ⟨ps, e, t, c⟩ := h
  refine ⟨ps, k1 _ e, t, fun pos cv q => ?_⟩
  obtain ⟨a, oc, u, vs, tk, e1, e2, r⟩ := c pos cv q
  exact ⟨a, oc, u, vs, tk, e1, k2 _ _ _ e2, r⟩
structure Bz where
  P : Program
  w : World
  K : PySem.W.Frag
  tb : cP
  hid : List Addr
noncomputable def Fz (β : Bz) (M : Mh) (a : Addr) : Prop := M a = none ∧ a ∉ β.hid
noncomputable def Kl (K : PySem.W.Frag) (a : Addr) (ns : List Int) : Prop := ∃ (o : Obj) (its : Array Value) (n : Nat), K.lookup a = some o ∧ o.cls = .type "list" ∧ o.dict = none ∧ o.data = .seq its n ∧ its.size ≤ sizeLine ∧ Vals (ns.map V.int) its.toList
inductive Rz (β : Bz) (M : Mh) (H : Hp) : V → Dv → Prop where
  | int (i : Int) : Rz β M H (.int i) (.int i)
  | bl (b : Bool) : Rz β M H (.bl b) (.bl b)
  | ao : Rz β M H .ao .ao
  | str (z : Str) : Rz β M H (.str z) (.str z)
  | tup {a : Addr} {vs : List V} {ds : List Dv} (m : Fz β M a) (e : H a = some (.tup vs)) (hl : vs.length = ds.length) (h : ∀ (i : Nat) (v : V) (d : Dv), vs[i]? = some v → ds[i]? = some d → Rz β M H v d) : Rz β M H (.ref a) (.tup ds)
  | lst {a : Addr} {vs : List V} {ds : List Dv} (m : Fz β M a) (e : H a = some (.lst vs)) (hl : vs.length = ds.length) (h : ∀ (i : Nat) (v : V) (d : Dv), vs[i]? = some v → ds[i]? = some d → Rz β M H v d) : Rz β M H (.ref a) (.lst ds)
  | set {a : Addr} {ns : List Int} (m : Fz β M a) (e : H a = some (fA β.P β.w a ns)) : Rz β M H (.ref a) (.set ns)
  | ptr {a : Addr} (m : (M a).isSome = true) : Rz β M H (.ref a) (.ptr a)
  | exc {a C : Addr} (m : Fz β M a) (e : H a = some (L5 C a)) : Rz β M H (.ref a) (.exc C)
  | bq {a : Addr} {o : Obj} {ns : List Int} (m : Fz β M a) (e : H a = some (.bD o (.lst (ns.map V.int)))) : Rz β M H (.ref a) (.bq ns)
  | cm {a : Addr} {ns : List Int} (m : Fz β M a) (e : H a = some (.lst (ns.map V.int))) : Rz β M H (.ref a) (.bq ns)
  | cn {a : Addr} {ns : List Int} (e : Kl β.K a ns) : Rz β M H (.ref a) (.bq ns)
  | raw (v : V) : Rz β M H v (.raw v)
  | dk {a : Addr} {ks : List Key} {vs : List V} {ds : List Dv} (m : Fz β M a) (e : Rd H a (.dK (ks.zip vs))) (hk : ks.length = vs.length) (hl : vs.length = ds.length) (h : ∀ (i : Nat) (v : V) (d : Dv), vs[i]? = some v → ds[i]? = some d → Rz β M H v d) : Rz β M H (.ref a) (.dk ks ds)
  | dt {a : Addr} {ks : List (List Key)} {vs : List V} {ds : List Dv} (m : Fz β M a) (e : Rd H a (.dT (ks.zip vs))) (hk : ks.length = vs.length) (hl : vs.length = ds.length) (h : ∀ (i : Nat) (v : V) (d : Dv), vs[i]? = some v → ds[i]? = some d → Rz β M H v d) : Rz β M H (.ref a) (.dt ks ds)
  | bI {f c : Addr} {o oc : Obj} {u uc : HO} {vs : List V} {ds : List Dv} (m : Fz β M f) (e : H f = some (.bD o u)) (m2 : Fz β M c) (e2 : H c = some (.bD oc uc)) (hl : vs.length = ds.length) (h : ∀ (i : Nat) (v : V) (d : Dv), vs[i]? = some v → ds[i]? = some d → Rz β M H v d) : Rz β M H (.ref f) (.bI f o c oc vs ds)
structure aD (β : Bz) (M : Mh) (H : Hp) (vs : List V) (ds : List Dv) : Prop where
  len : vs.length = ds.length
  at' : ∀ (i : Nat) (v : V) (d : Dv), vs[i]? = some v → ds[i]? = some d → Rz β M H v d
noncomputable def ia (β : Bz) (M : Mh) (H : Hp) (a : Addr) : Mo → Prop
  | .lst ds => ∃ vs, H a = some (.lst vs) ∧ aD β M H vs ds
  | .c6 => Jm H a
  | .dk ks ds => ∃ vs, H a = some (.dK (ks.zip vs)) ∧ ks.length = vs.length ∧ aD β M H vs ds
  | .dt ks ds => ∃ vs, H a = some (.dT (ks.zip vs)) ∧ ks.length = vs.length ∧ aD β M H vs ds
noncomputable def ly : HO → Bool
  | .lst _ => true
  | .set _ _ => true
  | .dK _ => true
  | .dT _ => true
  | .ext _ => true
  | .cC _ => true
  | _ => false
noncomputable def wO (H : Hp) (a : Addr) : Prop := ∃ o, H a = some o ∧ ly o = true
theorem wO.upd {H : Hp} {a p : Addr} {o : HO} (h : wO H a) (d : H p = none ∨ ly o = true) : wO (upd H p o) a := by
  obtain ⟨u, e, n⟩ := h
  by_cases z : a = p
  · subst z
    rcases d with d | d
    · rw [e] at d; cases d
    · exact ⟨o, ay, d⟩
  · exact ⟨u, by rw [ae z]; exact e, n⟩
structure Mz (β : Bz) (M : Mh) (H : Hp) : Prop where
  obj : ∀ a o, M a = some o → ia β M H a o
  tabs : CD β.tb.g H
  hids : ∀ a ∈ β.hid, wO H a
  apart : ∀ a o, M a = some o → a ∉ β.hid
  lams : ∀ p ∈ β.tb.l, Lm H p
structure Ey (M : Mh) (H : Hp) (M' : Mh) (H' : Hp) : Prop where
  keep : ∀ b o, M b = none → H b = some o → H' b = some o ∨ ∃ o', Tg o o' ∧ H' b = some o'
  dom : ∀ a, (M a).isSome = true → (M' a).isSome = true
  new : ∀ a o, M a = none → H a = some o → M' a = none
structure Ex (β : Bz) (M : Mh) (H : Hp) (M' : Mh) (H' : Hp) : Prop extends Ey M H M' H' where
  mz : Mz β M' H'
section
variable {β : Bz} {M M1 M2 : Mh} {H H1 H2 : Hp}
theorem Ey.refl : Ey M H M H := ⟨fun _ _ _ h => .inl h, fun _ h => h, fun _ _ h _ => h⟩
theorem Ex.refl (m : Mz β M H) : Ex β M H M H := ⟨.refl, m⟩
theorem Ey.trans (x : Ey M H M1 H1) (y : Ey M1 H1 M2 H2) : Ey M H M2 H2 := by
  refine ⟨fun b o hm h => ?_, fun a h => y.dom a (x.dom a h), fun a o hm h => ?_⟩
  · have jX := x.new b o hm h
    rcases x.keep b o hm h with q | ⟨o1, t, q⟩
    · exact y.keep b o jX q
    · rcases y.keep b _ jX q with q2 | ⟨o2, t2, q2⟩
      · exact .inr ⟨o1, t, q2⟩
      · exact .inr ⟨o2, t.trans t2, q2⟩
  · have jX := x.new a o hm h
    rcases x.keep a o hm h with q | ⟨o1, t, q⟩
    · exact y.new a _ jX q
    · exact y.new a _ jX q
theorem Ex.trans (x : Ex β M H M1 H1) (y : Ex β M1 H1 M2 H2) : Ex β M H M2 H2 := ⟨x.toEy.trans y.toEy, y.mz⟩
theorem Ey.get (x : Ey M H M1 H1) {b : Addr} {o : HO} (m : M b = none) (h : H b = some o) (n : CO o = false) : H1 b = some o := by
  rcases x.keep b o m h with q | ⟨o', e, _⟩
  · exact q
  · rw [e.tab] at n; cases n
theorem Ey.rd (x : Ey M H M1 H1) {b : Addr} {u : HO} (m : M b = none) (h : Rd H b u) (hu : i9 u = true) : Rd H1 b u := by
  rcases h with h | ⟨o, h⟩
  · rcases x.keep b u m h with q | ⟨o', t, q⟩
    · exact .inl q
    · rcases t with ⟨_, _, rfl, _⟩ | ⟨_, _, rfl, _⟩ | ⟨_, ob, rfl⟩
      · cases hu
      · cases hu
      · exact .inr ⟨ob, q⟩
  · exact .inr ⟨o, x.get m h rfl⟩
theorem Ey.gone (x : Ey M H M1 H1) {b : Addr} (h : H1 b = none) : M b = none → H b = none := fun m => by
  cases e : H b with
  | none => rfl
  | some o =>
    rcases x.keep b o m e with q | ⟨_, _, q⟩ <;> (rw [h] at q; cases q)
theorem Rz.ey (x : Ey M H M1 H1) {v : V} {d : Dv} (h : Rz β M H v d) : Rz β M1 H1 v d := by
  induction h with
  | int i => exact .int i
  | bl b => exact .bl b
  | ao => exact .ao
  | str z => exact .str z
  | tup m e hl h ih => exact .tup ⟨x.new _ _ m.1 e, m.2⟩ (x.get m.1 e rfl) hl ih
  | lst m e hl h ih => exact .lst ⟨x.new _ _ m.1 e, m.2⟩ (x.get m.1 e rfl) hl ih
  | dk m e hk hl h ih => exact .dk ⟨x.new _ _ m.1 e.there.choose_spec, m.2⟩ (x.rd m.1 e rfl) hk hl ih
  | dt m e hk hl h ih => exact .dt ⟨x.new _ _ m.1 e.there.choose_spec, m.2⟩ (x.rd m.1 e rfl) hk hl ih
  | bI m e m2 e2 hl h ih => exact .bI ⟨x.new _ _ m.1 e, m.2⟩ (x.get m.1 e rfl) ⟨x.new _ _ m2.1 e2, m2.2⟩ (x.get m2.1 e2 rfl) hl ih
  | set m e => exact .set ⟨x.new _ _ m.1 e, m.2⟩ (x.get m.1 e rfl)
  | ptr m => exact .ptr (x.dom _ m)
  | exc m e => exact .exc ⟨x.new _ _ m.1 e, m.2⟩ (x.get m.1 e rfl)
  | bq m e => exact .bq ⟨x.new _ _ m.1 e, m.2⟩ (x.get m.1 e rfl)
  | cm m e => exact .cm ⟨x.new _ _ m.1 e, m.2⟩ (x.get m.1 e rfl)
  | cn e => exact .cn e
  | raw v => exact .raw v
theorem Rz.ex (x : Ex β M H M1 H1) {v : V} {d : Dv} (h : Rz β M H v d) : Rz β M1 H1 v d := h.ey x.toEy
theorem aD.ex (x : Ex β M H M1 H1) {vs : List V} {ds : List Dv} (h : aD β M H vs ds) : aD β M1 H1 vs ds := ⟨h.len, fun i v d a b => (h.at' i v d a b).ex x⟩
theorem aD.nil : aD β M H [] [] := ⟨rfl, fun i v d h => by simp at h⟩
theorem aD.cons {v : V} {d : Dv} {vs : List V} {ds : List Dv} (h : Rz β M H v d) (t : aD β M H vs ds) : aD β M H (v :: vs) (d :: ds) := ⟨by simp [t.len], fun i x y a b => by
  cases i with
  | zero => simp at a b; subst a b; exact h
  | succ i => rw [List.getElem?_cons_succ] at a b; exact t.at' i x y a b⟩
theorem aD.head {v : V} {d : Dv} {vs : List V} {ds : List Dv} (h : aD β M H (v :: vs) (d :: ds)) : Rz β M H v d := h.at' 0 v d rfl rfl
theorem aD.tail {v : V} {d : Dv} {vs : List V} {ds : List Dv} (h : aD β M H (v :: vs) (d :: ds)) : aD β M H vs ds := ⟨by simpa using h.len, fun i x y a b => h.at' (i + 1) x y (by rw [List.getElem?_cons_succ]; exact a) (by rw [List.getElem?_cons_succ]; exact b)⟩
theorem aD.append {vs zg : List V} {ds fR : List Dv} (h : aD β M H vs ds) (t : aD β M H zg fR) : aD β M H (vs ++ zg) (ds ++ fR) := ⟨by simp [h.len, t.len], fun i x y a b => by
  rw [List.getElem?_append] at a b
  rw [h.len] at a
  split at b
  · rename_i z
    rw [if_pos z] at a
    exact h.at' i x y a b
  · rename_i z
    rw [if_neg z] at a
    exact t.at' _ x y a b⟩
theorem aD.snoc {v : V} {d : Dv} {vs : List V} {ds : List Dv} (t : aD β M H vs ds) (h : Rz β M H v d) : aD β M H (vs ++ [v]) (ds ++ [d]) := t.append (.cons h .nil)
theorem aD.get {vs : List V} {ds : List Dv} (h : aD β M H vs ds) {i : Nat} {d : Dv} (e : ds[i]? = some d) : ∃ v, vs[i]? = some v ∧ Rz β M H v d := by
  have hi := (List.getElem?_eq_some_iff.mp e).1
  have d6 : i < vs.length := by rw [h.len]; exact hi
  exact ⟨vs[i], List.getElem?_eq_getElem d6, h.at' i _ _ (List.getElem?_eq_getElem d6) e⟩
theorem aD.get' {vs : List V} {ds : List Dv} (h : aD β M H vs ds) {i : Nat} {v : V} (e : vs[i]? = some v) : ∃ d, ds[i]? = some d ∧ Rz β M H v d := by
  have hi := (List.getElem?_eq_some_iff.mp e).1
  have d6 : i < ds.length := by rw [← h.len]; exact hi
  exact ⟨ds[i], List.getElem?_eq_getElem d6, h.at' i _ _ e (List.getElem?_eq_getElem d6)⟩
theorem aD.take {vs : List V} {ds : List Dv} (h : aD β M H vs ds) (n : Nat) : aD β M H (vs.take n) (ds.take n) := ⟨by simp [h.len], fun i x y a b => by
  rw [List.getElem?_take] at a b
  split at a
  · rename_i z; rw [if_pos z] at b; exact h.at' i x y a b
  · cases a⟩
theorem aD.drop {vs : List V} {ds : List Dv} (h : aD β M H vs ds) (n : Nat) : aD β M H (vs.drop n) (ds.drop n) := ⟨by simp [h.len], fun i x y a b => by
  rw [List.getElem?_drop] at a b
  exact h.at' _ x y a b⟩
theorem aD.set {vs : List V} {ds : List Dv} (h : aD β M H vs ds) (n : Nat) {v : V} {d : Dv} (r : Rz β M H v d) : aD β M H (vs.set n v) (ds.set n d) := ⟨by simp [h.len], fun i x y a b => by
  rw [List.getElem?_set] at a b
  rw [h.len] at a
  split at a
  · rename_i z
    rw [if_pos z] at b
    split at a
    · rename_i z2; rw [if_pos z2] at b; cases a; cases b; exact r
    · cases a
  · rename_i z; rw [if_neg z] at b; exact h.at' i x y a b⟩
theorem lz {a : Addr} {vs : List V} {ds : List Dv} (m : Fz β M a) (e : H a = some (.tup vs)) (h : aD β M H vs ds) : Rz β M H (.ref a) (.tup ds) := .tup m e h.len h.at'
theorem oO {a : Addr} {vs : List V} {ds : List Dv} (m : Fz β M a) (e : H a = some (.lst vs)) (h : aD β M H vs ds) : Rz β M H (.ref a) (.lst ds) := .lst m e h.len h.at'
theorem dm {v : V} {ds : List Dv} (h : Rz β M H v (.tup ds)) : ∃ a vs, v = .ref a ∧ Fz β M a ∧ H a = some (.tup vs) ∧ aD β M H vs ds := by
  cases h with
  | tup m e hl h => exact ⟨_, _, rfl, m, e, hl, h⟩
theorem fT {v : V} {ds : List Dv} (h : Rz β M H v (.lst ds)) : ∃ a vs, v = .ref a ∧ Fz β M a ∧ H a = some (.lst vs) ∧ aD β M H vs ds := by
  cases h with
  | lst m e hl h => exact ⟨_, _, rfl, m, e, hl, h⟩
theorem aK {v : V} {i : Int} (h : Rz β M H v (.int i)) : v = .int i := by cases h; rfl
theorem dw {v : V} {b : Bool} (h : Rz β M H v (.bl b)) : v = .bl b := by cases h; rfl
theorem cU {v : V} {z : Str} (h : Rz β M H v (.str z)) : v = .str z := by cases h; rfl
theorem eG {v : V} (h : Rz β M H v .ao) : v = .ao := by cases h; rfl
theorem zh {v u : V} (h : Rz β M H v (.raw u)) : v = u := by cases h; rfl
theorem cF {v : V} {a : Addr} (h : Rz β M H v (.ptr a)) : v = .ref a ∧ (M a).isSome = true := by cases h with | ptr m => exact ⟨rfl, m⟩
theorem zj {v : V} {ns : List Int} (h : Rz β M H v (.set ns)) : ∃ a, v = .ref a ∧ Fz β M a ∧ H a = some (fA β.P β.w a ns) := by cases h with | set m e => exact ⟨_, rfl, m, e⟩
theorem qU {v : V} {ns : List Int} (h : Rz β M H v (.bq ns)) : ∃ a, v = .ref a ∧ bH β.K H a (ns.map V.int) := by
  cases h with
  | bq m e => exact ⟨_, rfl, .inl (.inr ⟨_, e⟩)⟩
  | cm m e => exact ⟨_, rfl, .inl (.inl e)⟩
  | cn e => exact ⟨_, rfl, .inr e⟩
noncomputable def nL : HO → Bool
  | .lst _ => true
  | .dK _ => true
  | .dT _ => true
  | _ => false
theorem Mz.own (m : Mz β M H) {a : Addr} {o : Mo} (e : M a = some o) : ∃ u, H a = some u ∧ nL u = true := by
  have q := m.obj a o e
  cases o with
  | lst ds => obtain ⟨vs, q, _⟩ := q; exact ⟨_, q, rfl⟩
  | dk ks ds => obtain ⟨vs, q, _⟩ := q; exact ⟨_, q, rfl⟩
  | dt ks ds => obtain ⟨vs, q, _⟩ := q; exact ⟨_, q, rfl⟩
  | c6 => obtain ⟨_, _, q, _⟩ := q; exact ⟨_, q, rfl⟩
theorem Mz.j0 (m : Mz β M H) {a : Addr} {u : HO} (h : H a = some u) (n : nL u = false) : M a = none := by
  cases e : M a with
  | none => rfl
  | some o => obtain ⟨u', q, w⟩ := m.own e; rw [h] at q; cases q; rw [n] at w; cases w
theorem Mz.Jw (m : Mz β M H) {p : Addr} (hp : p ∈ β.tb) : M p = none := let ⟨_, h, _⟩ := m.tabs p hp; m.j0 h rfl
theorem Mz.GZ (m : Mz β M H) {p : Addr × Str} (hp : p ∈ β.tb.l) : M p.1 = none := let ⟨_, h, _⟩ := m.lams p hp; m.j0 h rfl
theorem Mz.free (m : Mz β M H) {a : Addr} (h : H a = none) : M a = none := by
  cases e : M a with
  | none => rfl
  | some o => obtain ⟨xs, q, _⟩ := m.own e; rw [h] at q; cases q
theorem Mz.fz (m : Mz β M H) {a : Addr} (h : H a = none) : Fz β M a := ⟨m.free h, fun z => by
  obtain ⟨o, e, _⟩ := m.hids a z
  rw [h] at e
  cases e⟩
theorem BE {p a : Addr} {o : HO} (h : ∃ u, H a = Option.some u) : ∃ u, upd H p o a = Option.some u := by
  unfold upd
  split
  · exact ⟨_, rfl⟩
  · exact h
theorem Ex.lay (m : Mz β M H) {p : Addr} (h : H p = none) (o : HO) : Ex β M H M (upd H p o) := by
  have pre : ∀ b u, H b = some u → upd H p o b = some u := fun b u q => by rw [ae (aT q h)]; exact q
  have rz : ∀ {v : V} {d : Dv}, Rz β M H v d → Rz β M (upd H p o) v d := fun r => by
    induction r with
    | int i => exact .int i
    | bl b => exact .bl b
    | ao => exact .ao
    | str z => exact .str z
    | tup m e hl h ih => exact .tup m (pre _ _ e) hl ih
    | lst m e hl h ih => exact .lst m (pre _ _ e) hl ih
    | dk m e hk hl h ih => exact .dk m (e.map fun _ h => pre _ _ h) hk hl ih
    | dt m e hk hl h ih => exact .dt m (e.map fun _ h => pre _ _ h) hk hl ih
    | bI m e m2 e2 hl h ih => exact .bI m (pre _ _ e) m2 (pre _ _ e2) hl ih
    | set m e => exact .set m (pre _ _ e)
    | ptr m => exact .ptr m
    | exc m e => exact .exc m (pre _ _ e)
    | bq m e => exact .bq m (pre _ _ e)
    | cm m e => exact .cm m (pre _ _ e)
    | cn e => exact .cn e
    | raw v => exact .raw v
  refine ⟨⟨fun b u _ q => .inl (pre b u q), fun _ h => h, fun _ _ h _ => h⟩, fun a u e => ?_, fun q hq => ?_, fun a ha => (m.hids a ha).upd (.inl h), m.apart, fun q hq => (m.lams q hq).keep (fun _ e => pre _ _ e) fun _ _ _ e => pre _ _ e⟩
  · have z := m.obj a u e
    cases u with
    | lst ds => obtain ⟨vs, z, l, r⟩ := z; exact ⟨vs, pre _ _ z, l, fun i v d a b => rz (r i v d a b)⟩
    | dk ks ds => obtain ⟨vs, z, hk, l, r⟩ := z; exact ⟨vs, pre _ _ z, hk, l, fun i v d a b => rz (r i v d a b)⟩
    | dt ks ds => obtain ⟨vs, z, hk, l, r⟩ := z; exact ⟨vs, pre _ _ z, hk, l, fun i v d a b => rz (r i v d a b)⟩
    | c6 => obtain ⟨c, n, z, r⟩ := z; exact ⟨c, n, pre _ _ z, r⟩
  · obtain ⟨ps, e, t⟩ := m.tabs q hq
    exact ⟨ps, pre _ _ e, t⟩
theorem Ex.grow (m : Mz β M H) {p : Addr} (hp : p ∈ β.tb) {ps : Array Value} (t : TriplesOk ps.toList) : Ex β M H M (upd H p (.cC ps)) := by
  obtain ⟨Ny, KC, t0⟩ := m.tabs p hp
  have pre : ∀ b u, H b = some u → zf u = true → upd H p (.cC ps) b = some u := fun b u q n => by
    have : b ≠ p := fun z => by subst z; rw [KC] at q; cases q; cases n
    rw [ae this]; exact q
  have rz : ∀ {v : V} {d : Dv}, Rz β M H v d → Rz β M (upd H p (.cC ps)) v d := fun r => by
    induction r with
    | int i => exact .int i
    | bl b => exact .bl b
    | ao => exact .ao
    | str z => exact .str z
    | tup m e hl h ih => exact .tup m (pre _ _ e rfl) hl ih
    | lst m e hl h ih => exact .lst m (pre _ _ e rfl) hl ih
    | dk m e hk hl h ih => exact .dk m (e.GY rfl fun x hx h => pre _ _ h hx) hk hl ih
    | dt m e hk hl h ih => exact .dt m (e.GY rfl fun x hx h => pre _ _ h hx) hk hl ih
    | bI m e m2 e2 hl h ih => exact .bI m (pre _ _ e rfl) m2 (pre _ _ e2 rfl) hl ih
    | set m e => exact .set m (pre _ _ e rfl)
    | ptr m => exact .ptr m
    | exc m e => exact .exc m (pre _ _ e rfl)
    | bq m e => exact .bq m (pre _ _ e rfl)
    | cm m e => exact .cm m (pre _ _ e rfl)
    | cn e => exact .cn e
    | raw v => exact .raw v
  refine ⟨⟨fun b u _ q => ?_, fun _ h => h, fun _ _ h _ => h⟩, fun a u e => ?_, fun q hq => ?_, fun a ha => (m.hids a ha).upd (.inr rfl), m.apart, fun q hq => (m.lams q hq).keep (fun _ e => pre _ _ e rfl) fun _ _ _ e => pre _ _ e rfl⟩
  · by_cases e : b = p
    · subst e
      rw [KC] at q
      cases q
      exact .inr ⟨_, .inl ⟨Ny, ps, rfl, rfl, t⟩, ay⟩
    · exact .inl (by rw [ae e]; exact q)
  · have z := m.obj a u e
    cases u with
    | lst ds => obtain ⟨vs, z, l, r⟩ := z; exact ⟨vs, pre _ _ z rfl, l, fun i v d a b => rz (r i v d a b)⟩
    | dk ks ds => obtain ⟨vs, z, hk, l, r⟩ := z; exact ⟨vs, pre _ _ z rfl, hk, l, fun i v d a b => rz (r i v d a b)⟩
    | dt ks ds => obtain ⟨vs, z, hk, l, r⟩ := z; exact ⟨vs, pre _ _ z rfl, hk, l, fun i v d a b => rz (r i v d a b)⟩
    | c6 => obtain ⟨c, n, z, r⟩ := z; exact ⟨c, n, pre _ _ z rfl, r⟩
  · by_cases e : q = p
    · subst e; exact ⟨ps, ay, t⟩
    · obtain ⟨p2, e2, t2⟩ := m.tabs q hq
      exact ⟨p2, by rw [ae e]; exact e2, t2⟩
noncomputable def ax (M : Mh) (a : Addr) (o : Mo) : Mh := fun b => if b = a then Option.some o else M b
theorem updM_same {a : Addr} {o : Mo} : ax M a o a = Option.some o := by unfold ax; rw [if_pos rfl]
theorem aj {a b : Addr} {o : Mo} (h : b ≠ a) : ax M a o b = M b := by unfold ax; rw [if_neg h]
theorem updM_updM {a : Addr} {o u : Mo} : ax (ax M a o) a u = ax M a u := by funext b; unfold ax; split <;> rfl
theorem j1 {p : Addr} {o : Mo} {u : HO} (hp : (M p).isSome = true ∨ H p = none) {v : V} {d : Dv} (h : Rz β M H v d) : Rz β (ax M p o) (upd H p u) v d := by
  have ne : ∀ a x, M a = none → H a = Option.some x → a ≠ p := fun a x m e z => by
    subst z
    rcases hp with q | q
    · rw [m] at q; cases q
    · rw [q] at e; cases e
  induction h with
  | int i => exact .int i
  | bl b => exact .bl b
  | ao => exact .ao
  | str z => exact .str z
  | tup m e hl h ih => have n := ne _ _ m.1 e; exact .tup ⟨by rw [aj n]; exact m.1, m.2⟩ (by rw [ae n]; exact e) hl ih
  | lst m e hl h ih => have n := ne _ _ m.1 e; exact .lst ⟨by rw [aj n]; exact m.1, m.2⟩ (by rw [ae n]; exact e) hl ih
  | dk m e hk hl h ih => have n := ne _ _ m.1 e.there.choose_spec; exact .dk ⟨by rw [aj n]; exact m.1, m.2⟩ (e.map fun _ h => by rw [ae n]; exact h) hk hl ih
  | dt m e hk hl h ih => have n := ne _ _ m.1 e.there.choose_spec; exact .dt ⟨by rw [aj n]; exact m.1, m.2⟩ (e.map fun _ h => by rw [ae n]; exact h) hk hl ih
  | bI m e m2 e2 hl h ih => have n := ne _ _ m.1 e; have n2 := ne _ _ m2.1 e2; exact .bI ⟨by rw [aj n]; exact m.1, m.2⟩ (by rw [ae n]; exact e) ⟨by rw [aj n2]; exact m2.1, m2.2⟩ (by rw [ae n2]; exact e2) hl ih
  | set m e => have n := ne _ _ m.1 e; exact .set ⟨by rw [aj n]; exact m.1, m.2⟩ (by rw [ae n]; exact e)
  | ptr m =>
    refine .ptr ?_
    unfold ax
    split
    · rfl
    · exact m
  | exc m e => have n := ne _ _ m.1 e; exact .exc ⟨by rw [aj n]; exact m.1, m.2⟩ (by rw [ae n]; exact e)
  | bq m e => have n := ne _ _ m.1 e; exact .bq ⟨by rw [aj n]; exact m.1, m.2⟩ (by rw [ae n]; exact e)
  | cm m e => have n := ne _ _ m.1 e; exact .cm ⟨by rw [aj n]; exact m.1, m.2⟩ (by rw [ae n]; exact e)
  | cn e => exact .cn e
  | raw v => exact .raw v
theorem ia.upd {p : Addr} {o' : Mo} {u : HO} (hp : (M p).isSome = true ∨ H p = none) {a : Addr} {o : Mo} (ha : a ≠ p) (z : ia β M H a o) : ia β (ax M p o') (L2.upd H p u) a o := by
  cases o with
  | lst ds => obtain ⟨vs, z, l, r⟩ := z; exact ⟨vs, by rw [ae ha]; exact z, l, fun i v d a b => j1 hp (r i v d a b)⟩
  | dk ks ds => obtain ⟨vs, z, hk, l, r⟩ := z; exact ⟨vs, by rw [ae ha]; exact z, hk, l, fun i v d a b => j1 hp (r i v d a b)⟩
  | dt ks ds => obtain ⟨vs, z, hk, l, r⟩ := z; exact ⟨vs, by rw [ae ha]; exact z, hk, l, fun i v d a b => j1 hp (r i v d a b)⟩
  | c6 => obtain ⟨c, n, z, r⟩ := z; exact ⟨c, n, by rw [ae ha]; exact z, r⟩
theorem Ex.nL (m : Mz β M H) {p : Addr} {u : HO} {o' : Mo} (hp : (M p).isSome = true ∨ H p = none) (hu : ly u = true) (r : ia β (ax M p o') (upd H p u) p o') : Ex β M H (ax M p o') (upd H p u) := by
  have ne : ∀ a x, M a = none → H a = Option.some x → a ≠ p := fun a x m e z => by
    subst z
    rcases hp with q | q
    · rw [m] at q; cases q
    · rw [q] at e; cases e
  refine ⟨⟨fun b u hm q => .inl ?_, fun a h => ?_, fun a o hm h => ?_⟩, fun a o e => ?_, fun q hq => ?_, fun a ha => (m.hids a ha).upd (.inr hu), fun a o e z => ?_, fun q hq => ?_⟩
  · rw [ae (ne b _ hm q)]; exact q
  · unfold ax
    split
    · rfl
    · exact h
  · rw [aj (ne a _ hm h)]; exact hm
  · by_cases ha : a = p
    · subst ha
      rw [updM_same] at e
      cases e
      exact r
    · rw [aj ha] at e
      exact (m.obj a o e).upd hp ha
  · obtain ⟨ps, e, t⟩ := m.tabs q hq
    exact ⟨ps, by rw [ae (ne q _ (m.Jw hq) e)]; exact e, t⟩
  · by_cases ha : a = p
    · subst ha
      rcases hp with h | h
      · cases q : M a with
        | none => rw [q] at h; cases h
        | some u => exact m.apart a u q z
      · obtain ⟨u, hu, _⟩ := m.hids a z
        rw [h] at hu
        cases hu
    · rw [aj ha] at e
      exact m.apart a o e z
  · exact (m.lams q hq).keep (fun _ e => by rw [ae (ne q.1 _ (m.GZ hq) e)]; exact e) fun c _ _ e => by rw [ae (ne c _ (m.j0 e rfl) e)]; exact e
theorem Ex.own (m : Mz β M H) {p : Addr} {vs : List V} {ds : List Dv} (hp : (M p).isSome = true ∨ H p = none) (r : aD β M H vs ds) : Ex β M H (ax M p (.lst ds)) (upd H p (.lst vs)) :=
  Ex.nL m hp rfl ⟨vs, ay, r.len, fun i v d a b => j1 hp (r.at' i v d a b)⟩
theorem Ex.L8 (m : Mz β M H) {p : Addr} {ks : List Key} {vs : List V} {ds : List Dv} (hp : (M p).isSome = true ∨ H p = none) (hk : ks.length = vs.length) (r : aD β M H vs ds) : Ex β M H (ax M p (.dk ks ds)) (upd H p (.dK (ks.zip vs))) :=
  Ex.nL m hp rfl ⟨vs, ay, hk, r.len, fun i v d a b => j1 hp (r.at' i v d a b)⟩
theorem Ex.L9 (m : Mz β M H) {p : Addr} {ks : List (List Key)} {vs : List V} {ds : List Dv} (hp : (M p).isSome = true ∨ H p = none) (hk : ks.length = vs.length) (r : aD β M H vs ds) : Ex β M H (ax M p (.dt ks ds)) (upd H p (.dT (ks.zip vs))) :=
  Ex.nL m hp rfl ⟨vs, ay, hk, r.len, fun i v d a b => j1 hp (r.at' i v d a b)⟩
noncomputable abbrev Bz.add (β : Bz) (D : Addr) : Bz := { β with hid := D :: β.hid }
theorem Rz.enter {D : Addr} {o : HO} (hD : H D = none) {v : V} {d : Dv} (h : Rz β M H v d) : Rz (β.add D) M (upd H D o) v d := by
  have ne : ∀ a x, Fz β M a → H a = some x → Fz (β.add D) M a := fun a x m e => ⟨m.1, by
    intro z
    rcases List.mem_cons.mp z with z | z
    · subst z; rw [hD] at e; cases e
    · exact m.2 z⟩
  have pre : ∀ a x, H a = some x → upd H D o a = some x := fun a x e => by rw [ae (aT e hD)]; exact e
  induction h with
  | int i => exact .int i
  | bl b => exact .bl b
  | ao => exact .ao
  | str z => exact .str z
  | tup m e hl h ih => exact .tup (ne _ _ m e) (pre _ _ e) hl ih
  | lst m e hl h ih => exact .lst (ne _ _ m e) (pre _ _ e) hl ih
  | dk m e hk hl h ih => exact .dk (ne _ _ m e.there.choose_spec) (e.map fun _ h => pre _ _ h) hk hl ih
  | dt m e hk hl h ih => exact .dt (ne _ _ m e.there.choose_spec) (e.map fun _ h => pre _ _ h) hk hl ih
  | bI m e m2 e2 hl h ih => exact .bI (ne _ _ m e) (pre _ _ e) (ne _ _ m2 e2) (pre _ _ e2) hl ih
  | set m e => exact .set (ne _ _ m e) (pre _ _ e)
  | ptr m => exact .ptr m
  | exc m e => exact .exc (ne _ _ m e) (pre _ _ e)
  | bq m e => exact .bq (ne _ _ m e) (pre _ _ e)
  | cm m e => exact .cm (ne _ _ m e) (pre _ _ e)
  | cn e => exact .cn e
  | raw v => exact .raw v
theorem Rz.sub {cx : Bz} (hP : cx.P = β.P) (hw : cx.w = β.w) (hK : cx.K = β.K) (hs : ∀ a, a ∈ cx.hid → a ∈ β.hid) {v : V} {d : Dv} (h : Rz β M H v d) : Rz cx M H v d := by
  have ne : ∀ a, Fz β M a → Fz cx M a := fun a m => ⟨m.1, fun z => m.2 (hs a z)⟩
  induction h with
  | int i => exact .int i
  | bl b => exact .bl b
  | ao => exact .ao
  | str z => exact .str z
  | tup m e hl h ih => exact .tup (ne _ m) e hl ih
  | lst m e hl h ih => exact .lst (ne _ m) e hl ih
  | dk m e hk hl h ih => exact .dk (ne _ m) e hk hl ih
  | dt m e hk hl h ih => exact .dt (ne _ m) e hk hl ih
  | bI m e m2 e2 hl h ih => exact .bI (ne _ m) e (ne _ m2) e2 hl ih
  | set m e => exact .set (ne _ m) (by rw [hP, hw]; exact e)
  | ptr m => exact .ptr m
  | exc m e => exact .exc (ne _ m) e
  | bq m e => exact .bq (ne _ m) e
  | cm m e => exact .cm (ne _ m) e
  | cn e => exact .cn (by rw [hK]; exact e)
  | raw v => exact .raw v
theorem Mz.sub {cx : Bz} (hP : cx.P = β.P) (hw : cx.w = β.w) (hK : cx.K = β.K) (ht : cx.tb = β.tb) (hs : ∀ a, a ∈ cx.hid → a ∈ β.hid) (m : Mz β M H) : Mz cx M H := ⟨fun a o e => by
  have z := m.obj a o e
  cases o with
  | lst ds => obtain ⟨vs, z, l, r⟩ := z; exact ⟨vs, z, l, fun i v d a b => (r i v d a b).sub hP hw hK hs⟩
  | dk ks ds => obtain ⟨vs, z, hk, l, r⟩ := z; exact ⟨vs, z, hk, l, fun i v d a b => (r i v d a b).sub hP hw hK hs⟩
  | dt ks ds => obtain ⟨vs, z, hk, l, r⟩ := z; exact ⟨vs, z, hk, l, fun i v d a b => (r i v d a b).sub hP hw hK hs⟩
  | c6 => exact z, by rw [ht]; exact m.tabs, fun a ha => m.hids a (hs a ha), fun a o e z => m.apart a o e (hs a z), by rw [ht]; exact m.lams⟩
theorem Mz.enter {D : Addr} {o : HO} (hD : H D = none) (ho : ly o = true) (m : Mz β M H) : Mz (β.add D) M (upd H D o) := ⟨fun a u e => by
  have pre : ∀ a x, H a = Option.some x → upd H D o a = Option.some x := fun a x e => by rw [ae (aT e hD)]; exact e
  have z := m.obj a u e
  cases u with
  | lst ds => obtain ⟨vs, z, l, r⟩ := z; exact ⟨vs, pre _ _ z, l, fun i v d a b => (r i v d a b).enter hD⟩
  | dk ks ds => obtain ⟨vs, z, hk, l, r⟩ := z; exact ⟨vs, pre _ _ z, hk, l, fun i v d a b => (r i v d a b).enter hD⟩
  | dt ks ds => obtain ⟨vs, z, hk, l, r⟩ := z; exact ⟨vs, pre _ _ z, hk, l, fun i v d a b => (r i v d a b).enter hD⟩
  | c6 => obtain ⟨c, n, z, r⟩ := z; exact ⟨c, n, pre _ _ z, r⟩, fun p hp => by
  obtain ⟨ps, e, t⟩ := m.tabs p hp
  exact ⟨ps, by rw [ae (aT e hD)]; exact e, t⟩, fun a ha => by
  rcases List.mem_cons.mp ha with z | z
  · subst z; exact ⟨_, ay, ho⟩
  · exact (m.hids a z).upd (.inl hD), fun a o e ha => by
  rcases List.mem_cons.mp ha with z | z
  · subst z; rw [m.free hD] at e; cases e
  · exact m.apart a o e z, fun q hq => (m.lams q hq).keep (fun _ e => by rw [ae (aT e hD)]; exact e) fun _ _ _ e => by rw [ae (aT e hD)]; exact e⟩
theorem Rz.over {D : Addr} {o : HO} (hD : D ∈ β.hid) {v : V} {d : Dv} (h : Rz β M H v d) : Rz β M (upd H D o) v d := by
  have pre : ∀ a x, Fz β M a → H a = some x → upd H D o a = some x := fun a x m e => by
    have n : a ≠ D := fun z => by subst z; exact m.2 hD
    rw [ae n]; exact e
  induction h with
  | int i => exact .int i
  | bl b => exact .bl b
  | ao => exact .ao
  | str z => exact .str z
  | tup m e hl h ih => exact .tup m (pre _ _ m e) hl ih
  | lst m e hl h ih => exact .lst m (pre _ _ m e) hl ih
  | dk m e hk hl h ih => exact .dk m (e.map fun _ h => pre _ _ m h) hk hl ih
  | dt m e hk hl h ih => exact .dt m (e.map fun _ h => pre _ _ m h) hk hl ih
  | bI m e m2 e2 hl h ih => exact .bI m (pre _ _ m e) m2 (pre _ _ m2 e2) hl ih
  | set m e => exact .set m (pre _ _ m e)
  | ptr m => exact .ptr m
  | exc m e => exact .exc m (pre _ _ m e)
  | bq m e => exact .bq m (pre _ _ m e)
  | cm m e => exact .cm m (pre _ _ m e)
  | cn e => exact .cn e
  | raw v => exact .raw v
theorem Mz.over {D : Addr} {o : HO} (hD : D ∈ β.hid) (ho : ly o = true) (hM : M D = none) (ht : D ∉ β.tb) (m : Mz β M H) : Mz β M (upd H D o) := ⟨fun a u e => by
  have na : a ≠ D := fun z => by subst z; rw [hM] at e; cases e
  have z := m.obj a u e
  cases u with
  | lst ds => obtain ⟨vs, z, l, r⟩ := z; exact ⟨vs, by rw [ae na]; exact z, l, fun i v d a b => (r i v d a b).over hD⟩
  | dk ks ds => obtain ⟨vs, z, hk, l, r⟩ := z; exact ⟨vs, by rw [ae na]; exact z, hk, l, fun i v d a b => (r i v d a b).over hD⟩
  | dt ks ds => obtain ⟨vs, z, hk, l, r⟩ := z; exact ⟨vs, by rw [ae na]; exact z, hk, l, fun i v d a b => (r i v d a b).over hD⟩
  | c6 => obtain ⟨c, n, z, r⟩ := z; exact ⟨c, n, by rw [ae na]; exact z, r⟩, fun p hp => by
  obtain ⟨ps, e, t⟩ := m.tabs p hp
  have n : p ≠ D := fun z => by subst z; exact ht hp
  exact ⟨ps, by rw [ae n]; exact e, t⟩, fun a ha => (m.hids a ha).upd (.inr ho), m.apart, fun q hq => by
  obtain ⟨o', e', n⟩ := m.hids D hD
  exact (m.lams q hq).keep (fun _ e => by rw [ae (fun z => by subst z; rw [e'] at e; cases e; cases n)]; exact e) fun c _ _ e => by rw [ae (fun z => by subst z; rw [e'] at e; cases e; cases n)]; exact e⟩
theorem Ey.over {D : Addr} {o : HO} (x : Ey M H M1 H1) (hD : H D = none) : Ey M H M1 (upd H1 D o) := ⟨fun b u m h => by
  have nb : b ≠ D := aT h hD
  rw [ae nb]
  exact x.keep b u m h, x.dom, x.new⟩
theorem Mz.BF {D : Addr} (m : Mz β M H) (hD : H D = none) : D ∉ β.tb := fun z => by
  obtain ⟨_, e, _⟩ := m.tabs D z
  rw [hD] at e
  cases e
structure Bx (β cx : Bz) (H : Hp) : Prop where
  P : cx.P = β.P
  w : cx.w = β.w
  K : cx.K = β.K
  tb : cx.tb = β.tb
  old : ∀ a, a ∈ β.hid → a ∈ cx.hid
  new : ∀ a, a ∈ cx.hid → a ∈ β.hid ∨ H a = none
theorem Bx.refl : Bx β β H := ⟨rfl, rfl, rfl, rfl, fun _ h => h, fun _ h => .inl h⟩
theorem Bx.add {D : Addr} (hD : H D = none) : Bx β (β.add D) H := ⟨rfl, rfl, rfl, rfl, fun _ h => List.mem_cons_of_mem _ h, fun a h => by
  rcases List.mem_cons.mp h with z | z
  · exact .inr (z ▸ hD)
  · exact .inl z⟩
theorem Rz.bx {cx : Bz} (b : Bx β cx H) {v : V} {d : Dv} (h : Rz β M H v d) : Rz cx M H v d := by
  have ne : ∀ a x, Fz β M a → H a = some x → Fz cx M a := fun a x m e => ⟨m.1, fun z => by
    rcases b.new a z with q | q
    · exact m.2 q
    · rw [q] at e; cases e⟩
  induction h with
  | int i => exact .int i
  | bl b => exact .bl b
  | ao => exact .ao
  | str z => exact .str z
  | tup m e hl h ih => exact .tup (ne _ _ m e) e hl ih
  | lst m e hl h ih => exact .lst (ne _ _ m e) e hl ih
  | dk m e hk hl h ih => exact .dk (ne _ _ m e.there.choose_spec) e hk hl ih
  | dt m e hk hl h ih => exact .dt (ne _ _ m e.there.choose_spec) e hk hl ih
  | bI m e m2 e2 hl h ih => exact .bI (ne _ _ m e) e (ne _ _ m2 e2) e2 hl ih
  | set m e => exact .set (ne _ _ m e) (by rw [b.P, b.w]; exact e)
  | ptr m => exact .ptr m
  | exc m e => exact .exc (ne _ _ m e) e
  | bq m e => exact .bq (ne _ _ m e) e
  | cm m e => exact .cm (ne _ _ m e) e
  | cn e => exact .cn (by rw [b.K]; exact e)
  | raw v => exact .raw v
end
inductive Pin (M : Mh) : Dv → Prop where
  | int (i : Int) : Pin M (.int i)
  | bl (b : Bool) : Pin M (.bl b)
  | ao : Pin M .ao
  | str (z : Str) : Pin M (.str z)
  | tup {ds : List Dv} (h : ∀ d ∈ ds, Pin M d) : Pin M (.tup ds)
  | lst {ds : List Dv} (h : ∀ d ∈ ds, Pin M d) : Pin M (.lst ds)
  | set (ns : List Int) : Pin M (.set ns)
  | ptr {a : Addr} (h : (M a).isSome = true) : Pin M (.ptr a)
  | exc (C : Addr) : Pin M (.exc C)
  | bq (ns : List Int) : Pin M (.bq ns)
  | raw (v : V) : Pin M (.raw v)
  | dk {ks : List Key} {ds : List Dv} (h : ∀ d ∈ ds, Pin M d) : Pin M (.dk ks ds)
  | dt {ks : List (List Key)} {ds : List Dv} (h : ∀ d ∈ ds, Pin M d) : Pin M (.dt ks ds)
  | bI {f c : Addr} {o oc : Obj} {vs : List V} {ds : List Dv} (h : ∀ d ∈ ds, Pin M d) : Pin M (.bI f o c oc vs ds)
theorem Rz.pin {β : Bz} {M : Mh} {H : Hp} {v : V} {d : Dv} (h : Rz β M H v d) : Pin M d := by
  induction h with
  | int i => exact .int i
  | bl b => exact .bl b
  | ao => exact .ao
  | str z => exact .str z
  | tup m e hl h ih =>
    refine .tup fun d hd => ?_
    obtain ⟨i, hi⟩ := List.mem_iff_getElem?.mp hd
    have h1 := (List.getElem?_eq_some_iff.mp hi).1
    exact ih i _ d (List.getElem?_eq_getElem (by omega)) hi
  | lst m e hl h ih =>
    refine .lst fun d hd => ?_
    obtain ⟨i, hi⟩ := List.mem_iff_getElem?.mp hd
    have h1 := (List.getElem?_eq_some_iff.mp hi).1
    exact ih i _ d (List.getElem?_eq_getElem (by omega)) hi
  | dk m e hk hl h ih =>
    refine .dk fun d hd => ?_
    obtain ⟨i, hi⟩ := List.mem_iff_getElem?.mp hd
    have h1 := (List.getElem?_eq_some_iff.mp hi).1
    exact ih i _ d (List.getElem?_eq_getElem (by omega)) hi
  | dt m e hk hl h ih =>
    refine .dt fun d hd => ?_
    obtain ⟨i, hi⟩ := List.mem_iff_getElem?.mp hd
    have h1 := (List.getElem?_eq_some_iff.mp hi).1
    exact ih i _ d (List.getElem?_eq_getElem (by omega)) hi
  | bI m e m2 e2 hl h ih =>
    refine .bI fun d hd => ?_
    obtain ⟨i, hi⟩ := List.mem_iff_getElem?.mp hd
    have h1 := (List.getElem?_eq_some_iff.mp hi).1
    exact ih i _ d (List.getElem?_eq_getElem (by omega)) hi
  | set m e => exact .set _
  | ptr m => exact .ptr m
  | exc m e => exact .exc _
  | bq m e => exact .bq _
  | cm m e => exact .bq _
  | cn e => exact .bq _
  | raw v => exact .raw v
noncomputable def Mo.items : Mo → List Dv
  | .lst ds => ds
  | .dk _ ds => ds
  | .dt _ ds => ds
  | .c6 => []
noncomputable def Wf (M : Mh) : Prop := ∀ b o, M b = some o → ∀ d ∈ o.items, Pin M d
theorem ia.Nz {β : Bz} {M : Mh} {H : Hp} {a : Addr} {o : Mo} (h : ia β M H a o) : ∃ vs, aD β M H vs o.items := by
  cases o with
  | lst ds => obtain ⟨vs, _, rs⟩ := h; exact ⟨vs, rs⟩
  | dk ks ds => obtain ⟨vs, _, _, rs⟩ := h; exact ⟨vs, rs⟩
  | dt ks ds => obtain ⟨vs, _, _, rs⟩ := h; exact ⟨vs, rs⟩
  | c6 => exact ⟨[], .nil⟩
theorem Mz.wf {β : Bz} {M : Mh} {H : Hp} (m : Mz β M H) : Wf M := fun b o e d hd => by
  obtain ⟨vs, rs⟩ := (m.obj b _ e).Nz
  obtain ⟨i, hi⟩ := List.mem_iff_getElem?.mp hd
  obtain ⟨v, _, r⟩ := rs.get hi
  exact r.pin
noncomputable abbrev aA := List (Option Dv)
noncomputable abbrev ZK := Dv → Mh → Prop
noncomputable abbrev aJ := aA → Mh → ZK → Prop
noncomputable abbrev cQ := aA → Mh → (Bool → Mh → Prop) → Prop
noncomputable abbrev eB := aA → Mh → (List Dv → Mh → Prop) → Prop
structure gq where
  nx : aA → Mh → Prop
  rt : ZK
  bk : aA → Mh → Prop := fun _ _ => False
  ct : aA → Mh → Prop := fun _ _ => False
noncomputable abbrev cy := gq → aA → Mh → Prop
noncomputable abbrev cG := Dv → aA → Mh → (aA → Mh → Prop) → Prop
noncomputable abbrev lC := List Dv → aA → Mh → (aA → Mh → Prop) → Prop
noncomputable abbrev eJ := aA → Mh → (List Dv → Mh → Prop) → Prop
structure Gz extends Bz where
  M0 : Mh
  H0 : Hp
structure Zr (Γ : Gz) (β : Bz) (M : Mh) (ρ : aA) (σ : St) (H : Hp) : Prop where
  eP : β.P = Γ.P
  ew : β.w = Γ.w
  eK : β.K = Γ.K
  et : β.tb = Γ.tb
  sub : ∀ a, a ∈ Γ.hid → a ∈ β.hid
  wf : Wf Γ.M0
  ent : Ey Γ.M0 Γ.H0 M H
  mz : Mz β M H
  len : ρ.length = σ.length
  at' : ∀ (i : Nat) (d : Dv), ρ[i]? = some (some d) → ∃ v, σ[i]? = some (some v) ∧ Rz β M H v d
section
variable {Γ : Gz} {β : Bz} {M M' : Mh} {ρ : aA} {σ : St} {H H' : Hp}
theorem Zr.step (z : Zr Γ β M ρ σ H) (x : Ex β M H M' H') : Zr Γ β M' ρ σ H' := ⟨z.eP, z.ew, z.eK, z.et, z.sub, z.wf, z.ent.trans x.toEy, x.mz, z.len, fun i d e => let ⟨v, h, r⟩ := z.at' i d e; ⟨v, h, r.ex x⟩⟩
theorem Zr.set (z : Zr Γ β M ρ σ H) (i : Nat) {v : V} {d : Dv} (r : Rz β M H v d) : Zr Γ β M (ρ.set i (some d)) (σ.set i (some v)) H := ⟨z.eP, z.ew, z.eK, z.et, z.sub, z.wf, z.ent, z.mz, by simp [z.len], fun j e h => by
  rw [List.getElem?_set] at h ⊢
  rw [z.len] at h
  split at h
  · rename_i q
    rw [if_pos q]
    split at h
    · rename_i q2
      rw [if_pos q2]
      cases h
      exact ⟨v, rfl, r⟩
    · cases h
  · rename_i q
    rw [if_neg q]
    exact z.at' j e h⟩
end
noncomputable def lE (Γ : Gz) (p : aJ) : TE := fun σ H Q => ∃ (β : Bz) (ρ : aA) (M : Mh) (Q' : ZK), Zr Γ β M ρ σ H ∧ p ρ M Q' ∧ ∀ d M' v H', Ex β M H M' H' → Rz β M' H' v d → Q' d M' → Q v H'
noncomputable def lT (Γ : Gz) (p : cQ) : TT := fun σ H Q => ∃ (β : Bz) (ρ : aA) (M : Mh) (Q' : Bool → Mh → Prop), Zr Γ β M ρ σ H ∧ p ρ M Q' ∧ ∀ b M' H', Ex β M H M' H' → Q' b M' → Q b H'
noncomputable def lA (Γ : Gz) (p : eB) : TA := fun σ H Q => ∃ (β : Bz) (ρ : aA) (M : Mh) (Q' : List Dv → Mh → Prop), Zr Γ β M ρ σ H ∧ p ρ M Q' ∧ ∀ ds M' vs H', Ex β M H M' H' → aD β M' H' vs ds → Q' ds M' → Q vs H'
structure Ev (β : Bz) (M : Mh) (H : Hp) (M' : Mh) (H' : Hp) : Prop where
  keep : ∀ b o, M b = none → H b = some o → H' b = some o ∨ ∃ o', Tg o o' ∧ H' b = some o'
  new : ∀ a o, M a = none → H a = some o → M' a = none
  mz : Mz β M' H'
theorem Ex.ev {β : Bz} {M M' : Mh} {H H' : Hp} (x : Ex β M H M' H') : Ev β M H M' H' := ⟨x.keep, x.new, x.mz⟩
theorem Ev.refl {β : Bz} {M : Mh} {H : Hp} (m : Mz β M H) : Ev β M H M H := (Ex.refl m).ev
theorem Ev.trans {β : Bz} {M M1 M2 : Mh} {H H1 H2 : Hp} (x : Ev β M H M1 H1) (y : Ev β M1 H1 M2 H2) : Ev β M H M2 H2 := by
  refine ⟨fun b o hm h => ?_, fun a o hm h => ?_, y.mz⟩
  · have jX := x.new b o hm h
    rcases x.keep b o hm h with q | ⟨o1, t, q⟩
    · exact y.keep b o jX q
    · rcases y.keep b _ jX q with q2 | ⟨o2, t2, q2⟩
      · exact .inr ⟨o1, t, q2⟩
      · exact .inr ⟨o2, t.trans t2, q2⟩
  · have jX := x.new a o hm h
    rcases x.keep a o hm h with q | ⟨o1, t, q⟩
    · exact y.new a _ jX q
    · exact y.new a _ jX q
structure wQ (Γ : Gz) (β : Bz) (M : Mh) (H : Hp) (D' : gq) (D : Ends) : Prop where
  nx : ∀ bJ M' aG H', Ev β M H M' H' → Zr Γ β M' bJ aG H' → D'.nx bJ M' → D.nx aG H'
  rt : ∀ d M' v H', Ev β M H M' H' → Ey Γ.M0 Γ.H0 M' H' → Rz β M' H' v d → D'.rt d M' → D.rt v H'
  bk : ∀ bJ M' aG H', Ev β M H M' H' → Zr Γ β M' bJ aG H' → D'.bk bJ M' → D.bk aG H'
  ct : ∀ bJ M' aG H', Ev β M H M' H' → Zr Γ β M' bJ aG H' → D'.ct bJ M' → D.ct aG H'
theorem wQ.step {Γ : Gz} {β : Bz} {M M1 : Mh} {H H1 : Hp} {D' : gq} {D : Ends} (r : wQ Γ β M H D' D) (x : Ev β M H M1 H1) : wQ Γ β M1 H1 D' D :=
  ⟨fun a b c d y => r.nx a b c d (x.trans y), fun a b c d y => r.rt a b c d (x.trans y), fun a b c d y => r.bk a b c d (x.trans y), fun a b c d y => r.ct a b c d (x.trans y)⟩
noncomputable def lS (Γ : Gz) (p : cy) : TS := fun D σ H => ∃ (β : Bz) (ρ : aA) (M : Mh) (D' : gq), Zr Γ β M ρ σ H ∧ p D' ρ M ∧ wQ Γ β M H D' D
noncomputable def lG (Γ : Gz) (p : cG) : TG := fun x σ H N => ∃ (β : Bz) (d : Dv) (ρ : aA) (M : Mh) (N' : aA → Mh → Prop), Zr Γ β M ρ σ H ∧ Rz β M H x d ∧ p d ρ M N' ∧ ∀ bJ M' aG H', Ex β M H M' H' → Zr Γ β M' bJ aG H' → N' bJ M' → N aG H'
noncomputable def NA (Γ : Gz) (p : lC) : oh := fun xs σ H N => ∃ (β : Bz) (ds : List Dv) (ρ : aA) (M : Mh) (N' : aA → Mh → Prop), Zr Γ β M ρ σ H ∧ aD β M H xs ds ∧ p ds ρ M N' ∧ ∀ bJ M' aG H', Ex β M H M' H' → Zr Γ β M' bJ aG H' → N' bJ M' → N aG H'
noncomputable def zk (β : Bz) (J : It) (ds : List Dv) (M : Mh) (H : Hp) : Prop := ∀ cx M' H', Bx β cx H → Ey M H M' H' → Mz cx M' H' → ∀ i, (i < ds.length → J.go i H' ∧ ∀ x j4, J.yld i H' x j4 → Ex cx M' H' M' j4 ∧ ∃ d, ds[i]? = some d ∧ Rz cx M' j4 x d) ∧ (ds.length ≤ i → J.stop i H')
noncomputable def lI (Γ : Gz) (p : eJ) : TI := fun σ H R => ∃ (β : Bz) (ρ : aA) (M : Mh) (R' : List Dv → Mh → Prop), Zr Γ β M ρ σ H ∧ p ρ M R' ∧ ∀ ds M' H' J, Ex β M H M' H' → zk β J ds M' H' → R' ds M' → R J H'
noncomputable abbrev QE (Γ : Gz) (X : Cx) (e : Expr) (p : aJ) : Prop := PE X e (lE Γ p)
noncomputable abbrev QT (Γ : Gz) (X : Cx) (e : Expr) (p : cQ) : Prop := PT X e (lT Γ p)
noncomputable abbrev QW (Γ : Gz) (X : Cx) (e : Expr) (p : cQ) : Prop := PW X e (lT Γ p)
noncomputable abbrev QA (Γ : Gz) (X : Cx) (es : List Expr) (p : eB) : Prop := PA X es (lA Γ p)
noncomputable abbrev QS (Γ : Gz) (X : Cx) (s : Stmt) (p : cy) : Prop := PS X s (lS Γ p)
noncomputable abbrev kJ (Γ : Gz) (X : Cx) (s : List Stmt) (p : cy) : Prop := fO X s (lS Γ p)
noncomputable abbrev QG (Γ : Gz) (X : Cx) (e : Expr) (p : cG) : Prop := PG X e (lG Γ p)
noncomputable abbrev CP (Γ : Gz) (X : Cx) (e : List Expr) (p : lC) : Prop := qp X e (NA Γ p)
noncomputable abbrev QI (Γ : Gz) (X : Cx) (tg e : Expr) (p : eJ) : Prop := PI X tg e (lI Γ p)
section
variable {X : Cx}
theorem PE.imp {e : Expr} {t t' : TE} (h : PE X e t) (i : ∀ σ H Q, t' σ H Q → t σ H Q) : PE X e t' := ⟨fun pins s σ H Q I q => h pins s σ H Q I (i _ _ _ q)⟩
theorem PT.imp {e : Expr} {t t' : TT} (h : PT X e t) (i : ∀ σ H Q, t' σ H Q → t σ H Q) : PT X e t' := ⟨fun pins s σ H Q I q => h pins s σ H Q I (i _ _ _ q)⟩
theorem PW.imp {e : Expr} {t t' : TT} (h : PW X e t) (i : ∀ σ H Q, t' σ H Q → t σ H Q) : PW X e t' := fun wh pins s σ H Q I q => h wh pins s σ H Q I (i _ _ _ q)
theorem PA.imp {e : List Expr} {t t' : TA} (h : PA X e t) (i : ∀ σ H Q, t' σ H Q → t σ H Q) : PA X e t' := ⟨fun pos pins s σ H Q I q => h pos pins s σ H Q I (i _ _ _ q)⟩
theorem PS.imp {e : Stmt} {t t' : TS} (h : PS X e t) (i : ∀ D σ H, t' D σ H → t D σ H) : PS X e t' := ⟨fun pins s σ H D I q => h pins s σ H D I (i _ _ _ q)⟩
theorem fO.imp {e : List Stmt} {t t' : TS} (h : fO X e t) (i : ∀ D σ H, t' D σ H → t D σ H) : fO X e t' := ⟨fun pins s σ H D I q => h pins s σ H D I (i _ _ _ q)⟩
theorem PG.imp {e : Expr} {t t' : TG} (h : PG X e t) (i : ∀ v σ H Q, t' v σ H Q → t v σ H Q) : PG X e t' := fun pins s σ H v u Q I r q => h pins s σ H v u Q I r (i _ _ _ _ q)
theorem qp.imp {e : List Expr} {t t' : oh} (h : qp X e t) (i : ∀ v σ H Q, t' v σ H Q → t v σ H Q) : qp X e t' := fun pins s σ H v u Q I r q => h pins s σ H v u Q I r (i _ _ _ _ q)
theorem PI.imp {tg e : Expr} {t t' : TI} (h : PI X tg e t) (i : ∀ σ H Q, t' σ H Q → t σ H Q) : PI X tg e t' := fun pins s σ H Q I q => h pins s σ H Q I (i _ _ _ q)
theorem iX.imp {e : List Expr} {t t' : TT} (h : iX X e t) (i : ∀ σ H Q, t' σ H Q → t σ H Q) : iX X e t' := fun pins s σ H Q I q => h pins s σ H Q I (i _ _ _ q)
variable {Γ : Gz} {a b c : Expr} {pa pb pc : aJ} {pos : Pos}
noncomputable def zVar (i : Nat) : aJ := fun ρ M Q => match ρ[i]? with | some (some d) => Q d M | _ => False
noncomputable def zC (d : Dv) : aJ := fun _ M Q => Q d M
theorem G0 {i : Nat} {x : Str} (hN : X.N[i]? = some x) (hv : mU X.env.scope x) (hd : (x == ("__debug__" : Str)) = false := by decide) (dE : (x == ("__classdict__" : Str)) = false := by decide) : QE Γ X (.Name x pos) (zVar i) :=
  (se hN hv hd dE).imp fun σ H Q ⟨β, ρ, M, Q', z, h, q⟩ => by
    unfold zVar at h
    split at h
    · rename_i d e
      obtain ⟨v, e2, r⟩ := z.at' i d e
      exact ⟨v, e2, q d M v H (.refl z.mz) r h⟩
    · exact h.elim
theorem qc {e : Expr} {v : V} {d : Dv} (h : PE X e (tC v)) (r : ∀ β M H, Rz β M H v d) : QE Γ X e (zC d) := h.imp fun σ H Q ⟨β, ρ, M, Q', z, h, q⟩ => q d M v H (.refl z.mz) (r β M H) h
theorem aw {i j pos} : QE Γ X (.Constant (.int i) j pos) (zC (.int i)) := qc E8 fun _ _ _ => .int _
theorem iG {b j pos} : QE Γ X (.Constant (.bool b) j pos) (zC (.bl b)) := qc IL fun _ _ _ => .bl _
theorem lD {j pos} : QE Γ X (.Constant .none j pos) (zC .ao) := qc E9 fun _ _ _ => .ao
theorem j5 {x j pos} : QE Γ X (.Constant (.str x) j pos) (zC (.str x)) := qc Fb fun _ _ _ => .str _
theorem BG {x : Str} {i : Int} {u : Value} (hg : Gl X x) (hm : X.mg x = some u) (r : RelV (.int i) u) (hd : (x == ("__debug__" : Str)) = false := by decide) : QE Γ X (.Name x pos) (zC (.int i)) := qc (u6 hg hm r hd) fun _ _ _ => .int _
theorem BH {x z : Str} {u : Value} (hg : Gl X x) (hm : X.mg x = some u) (r : RelV (.str z) u) (hd : (x == ("__debug__" : Str)) = false := by decide) : QE Γ X (.Name x pos) (zC (.str z)) := qc (u6 hg hm r hd) fun _ _ _ => .str _
theorem iO {x : Str} {v : V} {u : Value} (hg : Gl X x) (hm : X.mg x = none) (hv : bootBuiltins x = some u) (r : RelV v u) (hn : x ≠ "__name__" := by decide) (hd : (x == ("__debug__" : Str)) = false := by decide) : QE Γ X (.Name x pos) (zC (.raw v)) := qc (Ds hg hm hv r hn hd) fun _ _ _ => .raw _
noncomputable abbrev dP := Dv → Dv → Mh → ZK → Prop
noncomputable def m9 (Γ : Gz) (r : R2) (z : dP) : Prop := ∀ (β : Bz) x y d e M H Q Q', β.P = Γ.P → β.w = Γ.w → β.K = Γ.K → Mz β M H → Rz β M H x d → Rz β M H y e → z d e M Q' → (∀ d' M' v H', Ex β M H M' H' → Rz β M' H' v d' → Q' d' M' → Q v H') → r x y H Q
noncomputable def dQ (Γ : Gz) (X : Cx) (f : Value → Value → Sem Value) (z : dP) : Prop := ∃ r, OpR X f r ∧ m9 Γ r z
noncomputable def zOp (z : dP) (pa pb : aJ) : aJ := fun ρ M Q => pa ρ M fun d M1 => pb ρ M1 fun e M2 => z d e M2 Q
theorem wR {r : R2} {z : dP} (hz : m9 Γ r z) {σ : St} {H : Hp} {Q : VK} (h : lE Γ (zOp z pa pb) σ H Q) : yf r (lE Γ pa) (lE Γ pb) σ H Q := by
  obtain ⟨β, ρ, M, Q', zr, h, q⟩ := h
  exact ⟨β, ρ, M, _, zr, h, fun d M1 v H1 x1 r1 h1 => ⟨β, ρ, M1, _, zr.step x1, h1, fun e M2 u H2 x2 r2 h2 => hz β v u d e M2 H2 Q Q' zr.eP zr.ew zr.eK x2.mz (r1.ex x2) r2 h2 fun d' M' v' H' x3 r3 q3 => q _ _ _ _ (x1.trans (x2.trans x3)) r3 q3⟩⟩
theorem aY {op : Operator} {z : dP} (ho : dQ Γ X (binaryOp op) z) (ha : QE Γ X a pa) (hb : QE Γ X b pb) : QE Γ X (.BinOp a op b pos) (zOp z pa pb) := by
  obtain ⟨r, h1, h2⟩ := ho
  exact (IY h1 ha hb).imp fun σ H Q h => wR h2 h
theorem vq {op : CmpOp} {z : dP} (ho : dQ Γ X (compareOp op) z) (ha : QE Γ X a pa) (hb : QE Γ X b pb) (hm : behindInMarks op b = false) : QE Γ X (.Compare a [op] [b] pos) (zOp z pa pb) := by
  obtain ⟨r, h1, h2⟩ := ho
  exact (DF h1 ha hb hm).imp fun σ H Q h => wR h2 h
noncomputable def zBool (Q : Bool → Mh → Prop) : ZK := fun d M => match d with | .bl k => Q k M | _ => False
theorem ja {Q : Bool → Mh → Prop} {d : Dv} {M : Mh} (h : zBool Q d M) : ∃ k, d = .bl k ∧ Q k M := by
  unfold zBool at h
  split at h
  · exact ⟨_, rfl, h⟩
  · exact h.elim
noncomputable def zTest (p : aJ) : cQ := fun ρ M Q => p ρ M (zBool Q)
theorem tj {p : aJ} {t : TE} (i : ∀ σ H Q, lE Γ p σ H Q → t σ H Q) {σ : St} {H : Hp} {Q : Bool → Hp → Prop} (h : lT Γ (zTest p) σ H Q) : vZ t σ H Q := by
  obtain ⟨β, ρ, M, Q', zr, h, q⟩ := h
  refine i _ _ _ ⟨β, ρ, M, _, zr, h, fun d M1 v H1 x1 r1 h1 => ?_⟩
  obtain ⟨k, rfl, h2⟩ := ja h1
  exact ⟨k, dw r1, q k M1 H1 x1 h2⟩
theorem a9 {op : CmpOp} {z : dP} (ho : dQ Γ X (compareOp op) z) (ha : QE Γ X a pa) (hb : QE Γ X b pb) (hm : behindInMarks op b = false) : QT Γ X (.Compare a [op] [b] pos) (zTest (zOp z pa pb)) := by
  obtain ⟨r, h1, h2⟩ := ho
  exact (DG h1 ha hb hm).imp fun σ H Q h => tj (fun _ _ _ => wR h2) h
theorem ib {e : Expr} {p : aJ} (h : QE Γ X e p) (he : ∀ whole, isTrue e X.env whole = (do let v ← whole; standAt e.pos; holding [v] (truthy v)) := by intro _; rfl) : QT Γ X e (zTest p) :=
  (Fc h he).imp fun σ H Q h => tj (fun _ _ _ h => h) h
noncomputable def zChain (z z' : dP) (pa pb pc : aJ) : aJ := fun ρ M Q => pa ρ M fun x M1 => pb ρ M1 fun y M2 => z x y M2 (zBool fun k M3 => if k = true then pc ρ M3 fun u M4 => z' y u M4 Q else Q (.bl false) M3)
theorem vt {r r' : R2} {z z' : dP} (hz : m9 Γ r z) (NB : m9 Γ r' z') {σ : St} {H : Hp} {Q : VK} (h : lE Γ (zChain z z' pa pb pc) σ H Q) : si r r' (lE Γ pa) (lE Γ pb) (lE Γ pc) σ H Q := by
  obtain ⟨β, ρ, M, Q', zr, h, q⟩ := h
  refine ⟨β, ρ, M, _, zr, h, fun d M1 v H1 x1 r1 h1 => ⟨β, ρ, M1, _, zr.step x1, h1, fun e M2 u H2 x2 r2 h2 => hz β v u d e M2 H2 _ _ zr.eP zr.ew zr.eK x2.mz (r1.ex x2) r2 h2 fun d' M3 v' H3 x3 r3 h3 => ?_⟩⟩
  obtain ⟨k, rfl, h4⟩ := ja h3
  have jb := x1.trans (x2.trans x3)
  refine ⟨k, dw r3, ?_⟩
  cases k with
  | true =>
    rw [if_pos rfl] at h4 ⊢
    exact ⟨β, ρ, M3, _, zr.step jb, h4, fun f M4 g H4 x4 r4 h5 => NB β u g e f M4 H4 _ _ zr.eP zr.ew zr.eK x4.mz ((r2.ex x3).ex x4) r4 h5 fun d5 M5 v5 H5 x5 r5 q5 => q _ _ _ _ (jb.trans (x4.trans x5)) r5 q5⟩
  | false =>
    rw [if_neg Bool.false_ne_true] at h4 ⊢
    exact q _ _ _ _ jb (.bl _) h4
theorem BI {op iV : CmpOp} {z z' : dP} (ho : dQ Γ X (compareOp op) z) (gB : dQ Γ X (compareOp iV) z') (ha : QE Γ X a pa) (hb : QE Γ X b pb) (hc : QE Γ X c pc) (hm : lastMarks [op, iV] [b, c] = false := by with_unfolding_all rfl) :
    QE Γ X (.Compare a [op, iV] [b, c] pos) (zChain z z' pa pb pc) := by
  obtain ⟨r, h1, h2⟩ := ho
  obtain ⟨r', G1, G2⟩ := gB
  exact (AR h1 G1 ha hb hc hm).imp fun σ H Q h => vt h2 G2 h
theorem tm {op iV : CmpOp} {z z' : dP} (ho : dQ Γ X (compareOp op) z) (gB : dQ Γ X (compareOp iV) z') (ha : QE Γ X a pa) (hb : QE Γ X b pb) (hc : QE Γ X c pc) (hm : lastMarks [op, iV] [b, c] = false := by with_unfolding_all rfl) :
    QT Γ X (.Compare a [op, iV] [b, c] pos) (zTest (zChain z z' pa pb pc)) := by
  obtain ⟨r, h1, h2⟩ := ho
  obtain ⟨r', G1, G2⟩ := gB
  exact (AU h1 G1 ha hb hc hm).imp fun σ H Q h => tj (fun _ _ _ => vt h2 G2) h
variable {tA og : cQ} {rest : List Expr}
noncomputable def zAnd (t u : cQ) : cQ := fun ρ M Q => t ρ M fun c M1 => if c = true then u ρ M1 Q else Q false M1
noncomputable def zOr (t u : cQ) : cQ := fun ρ M Q => t ρ M fun c M1 => if c = true then Q true M1 else u ρ M1 Q
noncomputable def zNot (t : cQ) : cQ := fun ρ M Q => t ρ M fun c M1 => Q (!c) M1
theorem mE (ha : QT Γ X a tA) : QW Γ X (.BoolOp .And [a] pos) tA := Du ha
theorem lF (ha : QT Γ X a tA) : QW Γ X (.BoolOp .Or [a] pos) tA := Fd ha
theorem oP (ha : QT Γ X a tA) (hb : QW Γ X (.BoolOp .And (b :: rest) pos) og) : QW Γ X (.BoolOp .And (a :: b :: rest) pos) (zAnd tA og) :=
  (Fe ha hb).imp fun σ H Q ⟨β, ρ, M, Q', zr, h, q⟩ => ⟨β, ρ, M, _, zr, h, fun k M1 H1 x1 h1 => by
    cases k with
    | true => rw [if_pos rfl] at h1 ⊢; exact ⟨β, ρ, M1, _, zr.step x1, h1, fun k2 M2 H2 x2 h2 => q _ _ _ (x1.trans x2) h2⟩
    | false => rw [if_neg Bool.false_ne_true] at h1 ⊢; exact q _ _ _ x1 h1⟩
theorem mF (ha : QT Γ X a tA) (hb : QW Γ X (.BoolOp .Or (b :: rest) pos) og) : QW Γ X (.BoolOp .Or (a :: b :: rest) pos) (zOr tA og) :=
  (IM ha hb).imp fun σ H Q ⟨β, ρ, M, Q', zr, h, q⟩ => ⟨β, ρ, M, _, zr, h, fun k M1 H1 x1 h1 => by
    cases k with
    | false => rw [if_neg Bool.false_ne_true] at h1 ⊢; exact ⟨β, ρ, M1, _, zr.step x1, h1, fun k2 M2 H2 x2 h2 => q _ _ _ (x1.trans x2) h2⟩
    | true => rw [if_pos rfl] at h1 ⊢; exact q _ _ _ x1 h1⟩
theorem ie (ha : QT Γ X a tA) : QT Γ X (.UnaryOp .Not a pos) (zNot tA) := (Ff ha).imp fun σ H Q ⟨β, ρ, M, Q', zr, h, q⟩ => ⟨β, ρ, M, _, zr, h, fun k M1 H1 x1 h1 => q _ _ _ x1 h1⟩
theorem QW.pt {e : Expr} {t : cQ} (h : QW Γ X e t) : QT Γ X e t := PW.pt h
noncomputable def zAndV (pa pb : aJ) : aJ := fun ρ M Q => pa ρ M (zBool fun c M1 => if c = true then pb ρ M1 Q else Q (.bl false) M1)
noncomputable def zNotV (pa : aJ) : aJ := fun ρ M Q => pa ρ M (zBool fun c M1 => Q (.bl (!c)) M1)
theorem oQ {op} (h : QE Γ X a pa) : QE Γ X (.BoolOp op [a] pos) pa := Fg h
theorem oR (ha : QE Γ X a pa) (hb : QE Γ X (.BoolOp .And (b :: rest) pos) pb) : QE Γ X (.BoolOp .And (a :: b :: rest) pos) (zAndV pa pb) :=
  (Fh ha hb).imp fun σ H Q ⟨β, ρ, M, Q', zr, h, q⟩ => ⟨β, ρ, M, _, zr, h, fun d M1 v H1 x1 r1 h1 => by
    obtain ⟨k, rfl, h2⟩ := ja h1
    refine ⟨k, dw r1, ?_⟩
    cases k with
    | true => rw [if_pos rfl] at h2 ⊢; exact ⟨β, ρ, M1, _, zr.step x1, h2, fun d2 M2 v2 H2 x2 r2 h2 => q _ _ _ _ (x1.trans x2) r2 h2⟩
    | false => rw [if_neg Bool.false_ne_true] at h2 ⊢; exact q _ _ _ _ x1 (.bl _) h2⟩
theorem G3 (ha : QE Γ X a pa) : QE Γ X (.UnaryOp .Not a pos) (zNotV pa) := (Fi ha).imp fun σ H Q ⟨β, ρ, M, Q', zr, h, q⟩ => ⟨β, ρ, M, _, zr, h, fun d M1 v H1 x1 r1 h1 => by
    obtain ⟨k, rfl, h2⟩ := ja h1
    exact ⟨k, dw r1, q _ _ _ _ x1 (.bl _) h2⟩⟩
noncomputable def zNil : eB := fun _ M Q => Q [] M
noncomputable def zCons (p : aJ) (r : eB) : eB := fun ρ M Q => p ρ M fun d M1 => r ρ M1 fun ds M2 => Q (d :: ds) M2
variable {es : List Expr} {za : eB}
theorem ah : QA Γ X [] zNil := FN.imp fun σ H Q ⟨β, ρ, M, Q', zr, h, q⟩ => q [] M [] H (.refl zr.mz) .nil h
theorem aa {e : Expr} (ha : QE Γ X e pa) (hr : QA Γ X es za) (hs : starEach (e :: es) X.env = (false, eval e X.env) :: starEach es X.env := by rfl) : QA Γ X (e :: es) (zCons pa za) :=
  (mB ha hr hs).imp fun σ H Q ⟨β, ρ, M, Q', zr, h, q⟩ => ⟨β, ρ, M, _, zr, h, fun d M1 v H1 x1 r1 h1 => ⟨β, ρ, M1, _, zr.step x1, h1, fun ds M2 vs H2 x2 r2 h2 => q _ _ _ _ (x1.trans x2) (.cons (r1.ex x2) r2) h2⟩⟩
noncomputable def zTup (p : eB) : aJ := fun ρ M Q => p ρ M fun ds M1 => ds.length ≤ sizeLine ∧ Q (.tup ds) M1
noncomputable def zLst (p : eB) : aJ := fun ρ M Q => p ρ M fun ds M1 => ds.length ≤ sizeLine ∧ Q (.lst ds) M1
noncomputable def zLstP (p : eB) : aJ := fun ρ M Q => p ρ M fun ds M1 => ds.length ≤ sizeLine ∧ ∀ a, M1 a = none → Q (.ptr a) (ax M1 a (.lst ds))
theorem lH {x1} (h : QA Γ X es za) : QE Γ X (.Tuple es x1 pos) (zTup za) := (FO h).imp fun σ H Q ⟨β, ρ, M, Q', zr, h, q⟩ => ⟨β, ρ, M, _, zr, h, fun ds M1 vs H1 x1 r1 h1 => ⟨by rw [r1.len]; exact h1.1, fun p hp => by
    have x2 := Ex.lay x1.mz hp (.tup vs)
    exact q _ _ _ _ (x1.trans x2) (lz (x1.mz.fz hp) ay (r1.ex x2)) h1.2⟩⟩
theorem tq (h : QA Γ X es za) : QE Γ X (.List es pos) (zLst za) := (yl h).imp fun σ H Q ⟨β, ρ, M, Q', zr, h, q⟩ => ⟨β, ρ, M, _, zr, h, fun ds M1 vs H1 x1 r1 h1 => ⟨by rw [r1.len]; exact h1.1, fun p hp => by
    have x2 := Ex.lay x1.mz hp (.lst vs)
    exact q _ _ _ _ (x1.trans x2) (oO (x1.mz.fz hp) ay (r1.ex x2)) h1.2⟩⟩
theorem mG (h : QA Γ X es za) : QE Γ X (.List es pos) (zLstP za) := (yl h).imp fun σ H Q ⟨β, ρ, M, Q', zr, h, q⟩ => ⟨β, ρ, M, _, zr, h, fun ds M1 vs H1 x1 r1 h1 => ⟨by rw [r1.len]; exact h1.1, fun p hp => by
    have x2 := Ex.own x1.mz (.inr hp) r1
    exact q _ _ _ _ (x1.trans x2) (.ptr (by rw [updM_same]; rfl)) (h1.2 p (x1.mz.free hp))⟩⟩
noncomputable abbrev qV := List Dv → Mh → ZK → Prop
noncomputable def CQ (Γ : Gz) (r : List V → Hp → VK → Prop) (z : qV) : Prop := ∀ (β : Bz) xs ds M H Q Q', β.P = Γ.P → β.w = Γ.w → β.K = Γ.K → Mz β M H → aD β M H xs ds → z ds M Q' → (∀ d' M' v H', Ex β M H M' H' → Rz β M' H' v d' → Q' d' M' → Q v H') → r xs H Q
noncomputable def fv (Γ : Gz) (X : Cx) (f : Value) (z : qV) : Prop := ∃ r, de X f r ∧ CQ Γ r z
noncomputable def zCB (z : qV) (p : eB) : aJ := fun ρ M Q => p ρ M fun ds M1 => z ds M1 Q
theorem G4 {r : List V → Hp → VK → Prop} {z : qV} (hz : CQ Γ r z) {σ : St} {H : Hp} {Q : VK} (h : lE Γ (zCB z za) σ H Q) : FQ r (lA Γ za) σ H Q := by
  obtain ⟨β, ρ, M, Q', zr, h, q⟩ := h
  exact ⟨β, ρ, M, _, zr, h, fun ds M1 vs H1 x1 r1 h1 => hz β vs ds M1 H1 _ _ zr.eP zr.ew zr.eK x1.mz r1 h1 fun d' M' v' H' x2 r2 q2 => q _ _ _ _ (x1.trans x2) r2 q2⟩
variable {st : Stmt} {KD : List Stmt} {p p2 : cy} {e : Expr} {pe : aJ}
noncomputable def zNext : cy := fun D ρ M => D.nx ρ M
noncomputable def zSeq (p q : cy) : cy := fun D ρ M => p { D with nx := q D } ρ M
theorem qss_nil : kJ Γ X [] zNext := Dw.imp fun D σ H ⟨β, ρ, M, D', zr, h, r⟩ => r.nx ρ M σ H (.refl zr.mz) zr h
theorem ak (h1 : QS Γ X st p) (h2 : kJ Γ X KD p2) : kJ Γ X (st :: KD) (zSeq p p2) := (AG h1 h2).imp fun D σ H ⟨β, ρ, M, D', zr, h, r⟩ =>
  ⟨β, ρ, M, _, zr, h, fun bJ M' aG H' x eL h' => ⟨β, bJ, M', D', eL, h', r.step x⟩, r.rt, r.bk, r.ct⟩
theorem av (h1 : QS Γ X st p) : kJ Γ X [st] p := Dx h1
noncomputable def zDrop (p : aJ) : cy := fun D ρ M => p ρ M fun _ M1 => D.nx ρ M1
theorem j6 (he : QE Γ X e pe) (hs : swapsWith e none pos.line X.env = pure false := by rfl) : QS Γ X (.Expr e pos) (zDrop pe) := (Dy he hs).imp fun D σ H ⟨β, ρ, M, D', zr, h, r⟩ =>
  ⟨β, ρ, M, _, zr, h, fun d M1 v H1 x1 r1 h1 => r.nx ρ M1 σ H1 x1.ev (zr.step x1) h1⟩
noncomputable def zRet (p : aJ) : cy := fun D ρ M => p ρ M D.rt
theorem aX (he : QE Γ X e pe) : QS Γ X (.Return (some e) pos) (zRet pe) := (Fj he).imp fun D σ H ⟨β, ρ, M, D', zr, h, r⟩ => ⟨β, ρ, M, _, zr, h, fun d M' v H' x r1 h1 => r.rt _ _ _ _ x.ev (zr.ent.trans x.toEy) r1 h1⟩
noncomputable def zIfS (c : cQ) (p q : cy) : cy := fun D ρ M => c ρ M fun b M1 => if b = true then p D ρ M1 else q D ρ M1
theorem cL {as bs : List Stmt} {pa pb : cy} (hc : QT Γ X c tA) (ha : kJ Γ X as pa) (hb : kJ Γ X bs pb) : QS Γ X (.If c as bs pos) (zIfS tA pa pb) := (IW hc ha hb).imp fun D σ H ⟨β, ρ, M, D', zr, h, r⟩ =>
  ⟨β, ρ, M, _, zr, h, fun k M1 H1 x1 h1 => by
    cases k with
    | true => rw [if_pos rfl] at h1 ⊢; exact ⟨β, ρ, M1, D', zr.step x1, h1, r.step x1.ev⟩
    | false => rw [if_neg Bool.false_ne_true] at h1 ⊢; exact ⟨β, ρ, M1, D', zr.step x1, h1, r.step x1.ev⟩⟩
noncomputable def zgName (i : Nat) : cG := fun d ρ M N => N (ρ.set i (some d)) M
theorem aR {i : Nat} {x : Str} (hN : X.N.Nodup) (hi : X.N[i]? = some x) (hx : Loc X.env.scope x) (hf : X.fn x = true ∨ X.env.scope.names.lookup x = some .local := by first | exact .inl rfl | exact .inr rfl | assumption) : QG Γ X (.Name x pos) (zgName i) :=
  (Dz hN hi hx hf).imp fun v σ H N ⟨β, d, ρ, M, N', zr, r, h, q⟩ => q _ _ _ _ (.refl zr.mz) (zr.set i r) h
noncomputable def zgNil : lC := fun ds ρ M N => match ds with | [] => N ρ M | _ => False
noncomputable def zgCons (g : cG) (u : lC) : lC := fun ds ρ M N => match ds with | d :: r => g d ρ M fun bJ M' => u r bJ M' N | [] => False
theorem pS : CP Γ X [] zgNil := DA.imp fun vs σ H N ⟨β, ds, ρ, M, N', zr, r, h, q⟩ => by
  unfold zgNil at h
  split at h
  · have e : vs = [] := List.length_eq_zero_iff.mp r.len
    exact ⟨e, q _ _ _ _ (.refl zr.mz) zr h⟩
  · exact h.elim
theorem gL {g : cG} {u : lC} (h1 : QG Γ X e g) (h2 : CP Γ X es u) (hs : (assignEach (e :: es) X.env).map (·.2) = assign e X.env :: (assignEach es X.env).map (·.2) := by rfl) : CP Γ X (e :: es) (zgCons g u) :=
  (AI h1 h2 hs).imp fun vs σ H N ⟨β, ds, ρ, M, N', zr, r, h, q⟩ => by
    unfold zgCons at h
    split at h
    · rename_i d rest
      cases vs with
      | nil => exact absurd r.len (by simp)
      | cons v vs => exact ⟨v, vs, rfl, β, d, ρ, M, _, zr, r.head, h, fun bJ M' aG H' x eL h' => ⟨β, rest, bJ, M', N', eL, r.tail.ex x, h', fun a b c d y => q a b c d (x.trans y)⟩⟩
    · exact h.elim
noncomputable def zgTup (n : Nat) (u : lC) : cG := fun d ρ M N => match d with | .tup ds => ds.length = n ∧ u ds ρ M N | _ => False
theorem tu {k : Nat} {u : lC} {n : Nat} (hc : X.calm = true) (h : CP Γ X es u) (hn : (assignEach es X.env).length = n := by rfl) (mW : (assignEach es X.env).findIdx? (·.1) = none := by rfl) : QG Γ X (.Tuple es k pos) (zgTup n u) :=
  (Fm hc h hn mW).imp fun v σ H N ⟨β, d, ρ, M, N', zr, r, h, q⟩ => by
    unfold zgTup at h
    split at h
    · obtain ⟨a, vs, rfl, m, e, rs⟩ := dm r
      exact ⟨a, vs, rfl, cu.of e, by rw [rs.len]; exact h.1, β, _, ρ, M, N', zr, rs, h.2, q⟩
    · exact h.elim
noncomputable def zAsg (p : aJ) (g : cG) : cy := fun D ρ M => p ρ M fun d M1 => g d ρ M1 D.nx
theorem Jx {g : cG} {D : Ends} {σ : St} {H : Hp} (h : lS Γ (zAsg pe g) D σ H) : pG (lE Γ pe) (lG Γ g) D σ H := by
  obtain ⟨β, ρ, M, D', zr, h, r⟩ := h
  exact ⟨β, ρ, M, _, zr, h, fun d M1 v H1 x1 r1 h1 => ⟨β, d, ρ, M1, D'.nx, zr.step x1, r1, h1, fun bJ M' aG H' x eL h' => r.nx _ _ _ _ (x1.trans x).ev eL h'⟩⟩
theorem j7 {tg : Expr} {g : cG} (he : QE Γ X e pe) (hg : QG Γ X tg g) (hs : swapsWithSole [tg] e pos.line X.env = pure false := by rfl) (hw : swappedStores [tg] e X.env = pure none := by rfl)
    (h1 : (assignEach [tg] X.env).map (·.2) = [assign tg X.env] := by rfl) : QS Γ X (.Assign [tg] e pos) (zAsg pe g) := (Fo he hg hs hw h1).imp fun D σ H h => Jx h
theorem wU {t : TE} (i : ∀ σ H Q, lE Γ pe σ H Q → t σ H Q) {n : Nat} {D : Ends} {σ : St} {H : Hp} (h : lS Γ (zAsg pe (zgName n)) D σ H) : pG t (oi n) D σ H := by
  obtain ⟨β, ρ, M, D', zr, h, r⟩ := h
  exact i _ _ _ ⟨β, ρ, M, _, zr, h, fun d M1 v H1 x1 r1 h1 => r.nx _ _ _ _ x1.ev ((zr.step x1).set n r1) h1⟩
theorem aN {i : Nat} {x : Str} {pos' : Pos} (hN : X.N.Nodup) (hi : X.N[i]? = some x) (hx : Loc X.env.scope x) (he : QE Γ X e pe) (hs : swapsWith e (some (.Name x pos')) pos.line X.env = pure false := by rfl) (hf : X.fn x = true ∨ X.env.scope.names.lookup x = some .local := by first | exact .inl rfl | exact .inr rfl | assumption) :
    QS Γ X (.Assign [.Name x pos'] e pos) (zAsg pe (zgName i)) := (Fp hN hi hx he hs hf).imp fun D σ H h => wU (fun _ _ _ h => h) h
end
section
variable {X : Cx} {Γ : Gz} {β : Bz}
noncomputable def ziTup (p : aJ) : eJ := fun ρ M R => p ρ M fun d M1 => match d with | .tup ds => R ds M1 | _ => False
noncomputable def ziLst (p : aJ) : eJ := fun ρ M R => p ρ M fun d M1 => match d with | .lst ds => R ds M1 | _ => False
noncomputable def c7 (lo : Int) (n : Nat) : List Dv := (List.range n).map fun i => .int (lo + (i : Nat))
noncomputable def ziRng1 (p : eB) : eJ := fun ρ M R => p ρ M fun ds M1 => match ds with | [.int j] => -(2 ^ 62) ≤ j ∧ j < 2 ^ 62 ∧ R (c7 0 j.toNat) M1 | _ => False
noncomputable def ziRng2 (p : eB) : eJ := fun ρ M R => p ρ M fun ds M1 => match ds with | [.int i, .int j] => (-(2 ^ 62) ≤ i ∧ i < 2 ^ 62 ∧ -(2 ^ 62) ≤ j ∧ j < 2 ^ 62) ∧ R (c7 i (j - i).toNat) M1 | _ => False
theorem kj {J : It} {vs : List V} {ds : List Dv} {M : Mh} {H : Hp} (r : aD β M H vs ds) (h : ∀ M' H', Ey M H M' H' → Runs J vs H') : zk β J ds M H := fun cx M' H' bx x m i => by
  have q := h M' H' x i
  rw [← r.len]
  refine ⟨fun hi => ⟨(q.1 hi).1, fun v j4 y => ?_⟩, q.2⟩
  obtain ⟨e, hv⟩ := (q.1 hi).2 v j4 y
  subst e
  obtain ⟨d, hd, rd⟩ := r.get' hv
  exact ⟨.refl m, d, hd, (rd.bx bx).ey x⟩
variable {tg l : Expr} {p : aJ} {pa : eB} {K : PySem.W.Frag}
theorem lJ (hK : X.K = K) (hl : QE Γ X l p) : QI Γ X tg l (ziTup p) := (DR hK hl).imp fun σ H R ⟨β, ρ, M, R', zr, h, q⟩ => ⟨β, ρ, M, _, zr, h, fun d M1 v H1 x1 r1 h1 => by
  revert h1
  split
  · intro h1
    obtain ⟨a, vs, rfl, m, e, rs⟩ := dm r1
    exact ⟨a, rfl, ⟨_, cu.of e⟩, q _ _ _ _ x1 (kj rs fun M' H' x => Bc (cu.of (x.get m.1 e rfl))) h1⟩
  · exact fun h => h.elim⟩
theorem pT (hK : X.K = K) (hl : QE Γ X l p) : QI Γ X tg l (ziLst p) := (Bd hK hl).imp fun σ H R ⟨β, ρ, M, R', zr, h, q⟩ => ⟨β, ρ, M, _, zr, h, fun d M1 v H1 x1 r1 h1 => by
  revert h1
  split
  · intro h1
    obtain ⟨a, vs, rfl, m, e, rs⟩ := fT r1
    exact ⟨a, rfl, ⟨_, bH.of e⟩, q _ _ _ _ x1 (kj rs fun M' H' x => yH (bH.of (x.get m.1 e rfl))) h1⟩
  · exact fun h => h.elim⟩
theorem qW {lo : Int} {n : Nat} {M : Mh} {H : Hp} : aD β M H ((List.range n).map fun i => V.int (lo + (i : Nat))) (c7 lo n) := ⟨by simp [c7], fun i v d a b => by
  unfold c7 at b
  rw [List.getElem?_map] at a b
  cases e : (List.range n)[i]? with
  | none => rw [e] at a; cases a
  | some c => rw [e] at a b; cases a; cases b; exact .int _⟩
theorem ee {xs : List V} {d : Dv} {M : Mh} {H : Hp} (r : aD β M H xs [d]) : ∃ v, xs = [v] ∧ Rz β M H v d := by
  match xs, r with
  | [v], r => exact ⟨v, rfl, r.head⟩
  | [], r => exact absurd r.len (by simp)
  | _ :: _ :: _, r => exact absurd r.len (by simp)
theorem mH {xs : List V} {d e : Dv} {M : Mh} {H : Hp} (r : aD β M H xs [d, e]) : ∃ v u, xs = [v, u] ∧ Rz β M H v d ∧ Rz β M H u e := by
  match xs, r with
  | [v, u], r => exact ⟨v, u, rfl, r.head, r.tail.head⟩
  | [], r => exact absurd r.len (by simp)
  | [_], r => exact absurd r.len (by simp)
  | _ :: _ :: _ :: _, r => exact absurd r.len (by simp)
section
variable {e e1 e2 : Expr} {pr pos : Pos}
theorem G5 {σ : St} {H : Hp} {R : It → Hp → Prop} (h : lI Γ (ziRng1 pa) σ H R) : Cv (lA Γ pa) σ H R := by
  obtain ⟨β, ρ, M, R', zr, h, q⟩ := h
  refine ⟨β, ρ, M, _, zr, h, fun ds M1 vs H1 x1 r1 h1 => ?_⟩
  revert h1
  split
  · rintro ⟨b1, b2, h1⟩
    obtain ⟨v, rfl, r⟩ := ee r1
    rw [aK r]
    exact ⟨_, rfl, b1, b2, q _ _ _ _ x1 (kj qW fun M' H' x => oB) h1⟩
  · exact fun h => h.elim
theorem G6 {σ : St} {H : Hp} {R : It → Hp → Prop} (h : lI Γ (ziRng2 pa) σ H R) : Cw (lA Γ pa) σ H R := by
  obtain ⟨β, ρ, M, R', zr, h, q⟩ := h
  refine ⟨β, ρ, M, _, zr, h, fun ds M1 vs H1 x1 r1 h1 => ?_⟩
  revert h1
  split
  · rintro ⟨b1, h1⟩
    obtain ⟨v, u, rfl, r, r'⟩ := mH r1
    rw [aK r, aK r']
    exact ⟨_, _, rfl, b1, q _ _ _ _ x1 (kj qW fun M' H' x => oB) h1⟩
  · exact fun h => h.elim
end
noncomputable def zLoop (g : cG) (tb : cy) (D : gq) : List Dv → aA → Mh → Prop
  | [], ρ, M => D.nx ρ M
  | d :: ds, ρ, M => g d ρ M fun j8 M2 => tb { D with nx := zLoop g tb D ds, ct := zLoop g tb D ds, bk := D.nx } j8 M2
noncomputable def zFor (zi : eJ) (g : cG) (tb : cy) : cy := fun D ρ M => zi ρ M fun ds M1 => zLoop g tb D ds ρ M1
noncomputable def zForM (zi : eJ) (g : cG) (tb : Mh → cy) : cy := fun D ρ M => zi ρ M fun ds M1 => zLoop g (tb M1) D ds ρ M1
theorem Zr.root {M : Mh} {ρ : aA} {σ : St} {H : Hp} (z : Zr Γ β M ρ σ H) : Zr ⟨β, M, H⟩ β M ρ σ H := ⟨rfl, rfl, rfl, rfl, fun _ h => h, z.mz.wf, .refl, z.mz, z.len, z.at'⟩
theorem Zr.zl {M M1 : Mh} {ρ KG : aA} {σ oj : St} {H H1 : Hp} (z : Zr Γ β M ρ σ H) (y : Zr ⟨β, M, H⟩ β M1 KG oj H1) : Zr Γ β M1 KG oj H1 := ⟨z.eP, z.ew, z.eK, z.et, z.sub, z.wf, z.ent.trans y.ent, y.mz, y.len, y.at'⟩
theorem Jy {zi : eJ} {g : cG} {tb : Mh → cy} {t : TS} (hb : ∀ bw : Gz, bw.P = Γ.P → bw.w = Γ.w → bw.K = Γ.K → bw.tb = Γ.tb → ∀ D σ H, lS bw (tb bw.M0) D σ H → t D σ H) {tg : TG} (hg : ∀ bw : Gz, bw.P = Γ.P → bw.w = Γ.w → bw.K = Γ.K → bw.tb = Γ.tb → ∀ x σ H N, lG bw g x σ H N → tg x σ H N) {D : Ends} {σ : St} {H : Hp} (h : lS Γ (zForM zi g tb) D σ H) : Fv (lI Γ zi) tg t D σ H := by
  obtain ⟨β, ρ, M, D', zr, h, r⟩ := h
  refine ⟨β, ρ, M, _, zr, h, fun ds M1 H1 J x1 it h1 => ?_⟩
  have iz := zr.step x1
  refine ⟨fun i m aG H' => m = ds.length - i ∧ i ≤ ds.length ∧ ∃ bJ M', Zr ⟨β, M1, H1⟩ β M' bJ aG H' ∧ zLoop g (tb M1) D' (ds.drop i) bJ M', ⟨ds.length, rfl, Nat.zero_le _, ρ, M1, iz.root, h1⟩, ?_⟩
  rintro i m aG H' ⟨rfl, hi, bJ, M', eL, h'⟩
  have ev : ∀ {M2 : Mh} {j8 : aA} {om : St} {H2 : Hp}, Zr ⟨β, M1, H1⟩ β M2 j8 om H2 → Ev β M H M2 H2 := fun z => x1.ev.trans ⟨z.ent.keep, z.ent.new, z.mz⟩
  by_cases aU : i < ds.length
  · have q := (it β M' H' .refl eL.ent eL.mz i).1 aU
    refine .inr ⟨q.1, fun om H2 => ∃ j8 M2, Zr ⟨β, M1, H1⟩ β M2 j8 om H2 ∧ zLoop g (tb M1) D' (ds.drop (i + 1)) j8 M2, fun om H2 ⟨j8, M2, CT, h2⟩ => ⟨ds.length - (i + 1), by omega, rfl, aU, j8, M2, CT, h2⟩, fun v j4 y => ?_⟩
    obtain ⟨x2, d, hd, rd⟩ := q.2 v j4 y
    have e : ds.drop i = d :: ds.drop (i + 1) := by
      rw [List.drop_eq_getElem_cons aU]
      rw [List.getElem?_eq_getElem aU] at hd
      cases hd
      rfl
    rw [e] at h'
    refine hg ⟨β, M1, H1⟩ zr.eP zr.ew zr.eK zr.et _ _ _ _ ⟨β, d, bJ, M', _, eL.step x2, rd, h', fun NC M3 kI H3 x3 G7 h3 => hb ⟨β, M1, H1⟩ zr.eP zr.ew zr.eK zr.et _ _ _ ⟨β, NC, M3, _, G7, h3, ?_⟩⟩
    exact ⟨fun oS M4 zm H4 x4 kK h4 => ⟨oS, M4, kK, h4⟩, fun d4 M4 v4 H4 x4 e4 r4 h4 => r.rt _ _ _ _ (x1.ev.trans ⟨e4.keep, e4.new, x4.mz⟩) (iz.ent.trans e4) r4 h4, fun oS M4 zm H4 x4 kK h4 => r.nx _ _ _ _ (ev kK) (iz.zl kK) h4, fun oS M4 zm H4 x4 kK h4 => ⟨oS, M4, kK, h4⟩⟩
  · have e : i = ds.length := by omega
    subst e
    rw [List.drop_length] at h'
    exact .inl ⟨(it β M' H' .refl eL.ent eL.mz _).2 (Nat.le_refl _), r.nx _ _ _ _ (ev eL) (iz.zl eL) h'⟩
noncomputable def ND (Γ : Gz) (p : Mh → cy) : TS := fun D σ H => ∃ bw : Gz, bw.P = Γ.P ∧ bw.w = Γ.w ∧ bw.K = Γ.K ∧ bw.tb = Γ.tb ∧ lS bw (p bw.M0) D σ H
noncomputable def NF (Γ : Gz) (p : cG) : TG := fun x σ H N => ∃ bw : Gz, bw.P = Γ.P ∧ bw.w = Γ.w ∧ bw.K = Γ.K ∧ bw.tb = Γ.tb ∧ lG bw p x σ H N
theorem D8 {body : List Stmt} {iter : Expr} {zi : eJ} {g : cG} {tb : Mh → cy} {pos : Pos} (hp : PassesOwn (model X.prog X.w) X.A X.env X.xe) (hc : X.calm = true) (hi : QI Γ X tg iter zi)
    (CU : ∀ (bw : Gz) (M1 : Mh), bw.M0 = M1 → bw.P = Γ.P → bw.w = Γ.w → bw.K = Γ.K → bw.tb = Γ.tb → QG bw X tg g ∧ kJ bw X body (tb M1))
    (hs : ∀ x, foldedSetIterable iter X.env x = pure x := by intro _; rfl) : QS Γ X (.For tg iter body [] pos) (zForM zi g tb) :=
  (Fw (g := NF Γ g) (tb := ND Γ tb) hp hc hi (fun pins s σ H v u Q I r h => by obtain ⟨bw, e1, e2, e3, e4, h⟩ := h; exact (CU bw _ rfl e1 e2 e3 e4).1 pins s σ H v u Q I r h) ⟨fun pins s σ H D I h => by obtain ⟨bw, e1, e2, e3, e4, h⟩ := h; exact (CU bw _ rfl e1 e2 e3 e4).2 pins s σ H D I h⟩ hs).imp
    fun D σ H h => Jy (fun bw e1 e2 e3 e4 D σ H h => ⟨bw, e1, e2, e3, e4, h⟩) (fun bw e1 e2 e3 e4 x σ H N h => ⟨bw, e1, e2, e3, e4, h⟩) h
theorem eO {body : List Stmt} {iter : Expr} {zi : eJ} {g : cG} {tb : cy} {pos : Pos} (hp : PassesOwn (model X.prog X.w) X.A X.env X.xe) (hc : X.calm = true) (hi : QI Γ X tg iter zi)
    (CU : ∀ bw : Gz, bw.P = Γ.P → bw.w = Γ.w → bw.K = Γ.K → bw.tb = Γ.tb → QG bw X tg g ∧ kJ bw X body tb)
    (hs : ∀ x, foldedSetIterable iter X.env x = pure x := by intro _; rfl) : QS Γ X (.For tg iter body [] pos) (zFor zi g tb) := D8 (tb := fun _ => tb) hp hc hi (fun bw M1 _ e1 e2 e3 e4 => CU bw e1 e2 e3 e4) hs
theorem bN {a : Expr} {p pos : Pos} (hg : Gl X "range") (hm : X.mg "range" = none) (ha : QA Γ X [a] pa) (hs : starEach [a] X.env = [(false, eval a X.env)] := by rfl) : QI Γ X tg (.Call (.Name "range" p) [a] [] pos) (ziRng1 pa) := (yb hg hm ha hs).imp fun σ H R h => G5 h
theorem zo {a b : Expr} {p pos : Pos} (hg : Gl X "range") (hm : X.mg "range" = none) (ha : QA Γ X [a, b] pa) (hs : starEach [a, b] X.env = [(false, eval a X.env), (false, eval b X.env)] := by rfl) (Cy : starEach [b] X.env = [(false, eval b X.env)] := by rfl) :
    QI Γ X tg (.Call (.Name "range" p) [a, b] [] pos) (ziRng2 pa) := (yc hg hm ha hs Cy).imp fun σ H R h => G6 h
noncomputable def zp (c : cQ) (tb : cy) : cy := fun D ρ M => ∃ W : Nat → aA → Mh → Prop, (∃ m, W m ρ M) ∧ ∀ m ρ M, W m ρ M →
  c ρ M fun b M1 => if b = true then tb { D with nx := fun bJ M' => ∃ m', m' < m ∧ W m' bJ M', ct := fun bJ M' => ∃ m', m' < m ∧ W m' bJ M', bk := D.nx } ρ M1 else D.nx ρ M1
theorem D9 {c : cQ} {tb : cy} {D : Ends} {σ : St} {H : Hp} (h : lS Γ (zp c tb) D σ H) : xY (lT Γ c) (lS Γ tb) D σ H := by
  obtain ⟨β, ρ, M, D', zr, ⟨W, ⟨m0, w0⟩, turn⟩, r⟩ := h
  refine ⟨fun m aG H' => ∃ bJ M', Ev β M H M' H' ∧ Zr Γ β M' bJ aG H' ∧ W m bJ M', ⟨m0, ρ, M, .refl zr.mz, zr, w0⟩, ?_⟩
  rintro m aG H' ⟨bJ, M', x', eL, w'⟩
  refine ⟨β, bJ, M', _, eL, turn m bJ M' w', fun k M1 H1 x1 h1 => ?_⟩
  have zq := x'.trans x1.ev
  cases k with
  | true =>
    dsimp only at h1 ⊢
    rw [if_pos rfl] at h1 ⊢
    refine ⟨fun om H2 => ∃ m', m' < m ∧ ∃ j8 M2, Ev β M H M2 H2 ∧ Zr Γ β M2 j8 om H2 ∧ W m' j8 M2, fun om H2 h2 => h2, β, bJ, M1, _, eL.step x1, h1, ?_⟩
    exact ⟨fun oS M4 zm H4 x4 kK ⟨m', hm, w4⟩ => ⟨m', hm, oS, M4, zq.trans x4, kK, w4⟩, fun d4 M4 v4 H4 x4 e4 r4 h4 => r.rt _ _ _ _ (zq.trans x4) e4 r4 h4, fun oS M4 zm H4 x4 kK h4 => r.nx _ _ _ _ (zq.trans x4) kK h4, fun oS M4 zm H4 x4 kK ⟨m', hm, w4⟩ => ⟨m', hm, oS, M4, zq.trans x4, kK, w4⟩⟩
  | false =>
    dsimp only at h1 ⊢
    rw [if_neg Bool.false_ne_true] at h1 ⊢
    exact r.nx _ _ _ _ zq (eL.step x1) h1
theorem nM {body : List Stmt} {c : Expr} {zc : cQ} {tb : cy} {pos : Pos} (hp : PassesOwn (model X.prog X.w) X.A X.env X.xe) (hc : QT Γ X c zc) (hb : kJ Γ X body tb) : QS Γ X (.While c body [] pos) (zp zc tb) := (AJ hp hc hb).imp fun D σ H h => D9 h
theorem cV {g : cG} {tb : cy} {D : gq} (J : Nat → aA → Mh → Prop) {ds : List Dv} {ρ : aA} {M : Mh} (h0 : J 0 ρ M)
    (hs : ∀ i d ρ M (N : aA → Mh → Prop), ds[i]? = some d → J i ρ M → (∀ bJ M', J (i + 1) bJ M' → N bJ M') → g d ρ M fun j8 M2 => tb { D with nx := N, ct := N, bk := D.nx } j8 M2)
    (hd : ∀ ρ M, J ds.length ρ M → D.nx ρ M) : zLoop g tb D ds ρ M := by
  have key : ∀ (n i : Nat) ρ M, n = ds.length - i → i ≤ ds.length → J i ρ M → zLoop g tb D (ds.drop i) ρ M := by
    intro n
    induction n with
    | zero =>
      intro i ρ M e hi h
      have : i = ds.length := by omega
      subst this
      rw [List.drop_length]
      exact hd _ _ h
    | succ n ih =>
      intro i ρ M e hi h
      have aU : i < ds.length := by omega
      rw [List.drop_eq_getElem_cons aU]
      exact hs i _ ρ M _ (List.getElem?_eq_getElem aU) h fun ρ M h => ih (i + 1) ρ M (by omega) aU h
  exact key _ 0 ρ M rfl (Nat.zero_le _) h0
end
section
variable {X : Cx} {Γ : Gz} {β : Bz}
noncomputable def zBlock (tn : Nat) (idx : List Nat) (ρ : aA) : aA := List.replicate tn none ++ idx.map fun i => (ρ[i]?).join
theorem Zr.block {M : Mh} {ρ : aA} {σ : St} {H : Hp} (z : Zr Γ β M ρ σ H) (tn : Nat) (idx : List Nat) : Zr Γ β M (zBlock tn idx ρ) (bh tn idx σ) H := ⟨z.eP, z.ew, z.eK, z.et, z.sub, z.wf, z.ent, z.mz, by simp [zBlock, bh], fun i d e => by
  unfold zBlock at e
  unfold bh
  rw [List.getElem?_append] at e ⊢
  rw [List.length_replicate] at e ⊢
  split at e
  · rw [List.getElem?_replicate] at e
    split at e <;> cases e
  · rename_i hi
    rw [if_neg hi]
    rw [List.getElem?_map] at e ⊢
    cases q : idx[i - tn]? with
    | none => rw [q] at e; cases e
    | some j =>
      rw [q] at e
      have e2 : ρ[j]? = some (some d) := by
        simp only [Option.map_some, Option.some.injEq] at e
        cases q2 : ρ[j]? with
        | none => rw [q2] at e; cases e
        | some o => rw [q2] at e; simp only [Option.join_some] at e; rw [e]
      obtain ⟨v, hv, r⟩ := z.at' j d e2
      exact ⟨v, by simp [hv], r⟩⟩
theorem Zr.enter {M : Mh} {ρ : aA} {σ : St} {H : Hp} {D : Addr} {o : HO} (z : Zr Γ β M ρ σ H) (hD : H D = none) (ho : ly o = true) : Zr Γ (β.add D) M ρ σ (upd H D o) :=
  ⟨z.eP, z.ew, z.eK, z.et, fun a h => List.mem_cons_of_mem _ (z.sub a h), z.wf, z.ent.over (z.ent.gone hD (by
    cases e : Γ.M0 D with
    | none => rfl
    | some u => have := z.ent.dom D (by rw [e]; rfl); rw [z.mz.free hD] at this; cases this)), z.mz.enter hD ho, z.len, fun i d e => let ⟨v, h, r⟩ := z.at' i d e; ⟨v, h, r.enter hD⟩⟩
theorem Zr.over {M : Mh} {ρ : aA} {σ : St} {H : Hp} {D : Addr} {o : HO} (z : Zr Γ β M ρ σ H) (hD : D ∈ β.hid) (ho : ly o = true) (hM : M D = none) (ht : D ∉ β.tb) (h0 : Γ.H0 D = none) : Zr Γ β M ρ σ (upd H D o) :=
  ⟨z.eP, z.ew, z.eK, z.et, z.sub, z.wf, z.ent.over h0, z.mz.over hD ho hM ht, z.len, fun i d e => let ⟨v, h, r⟩ := z.at' i d e; ⟨v, h, r.over hD⟩⟩
noncomputable abbrev qX (Γ : Gz) (X : Cx) (ifs : List Expr) (t : cQ) : Prop := iX X ifs (lT Γ t)
noncomputable def zNoIf : cQ := fun _ M Q => Q true M
theorem cW : qX Γ X [] zNoIf := DM.imp fun σ H Q ⟨β, ρ, M, Q', zr, h, q⟩ => q true M H (.refl zr.mz) h
theorem Ea {c : Expr} {tc : cQ} (h : QT Γ X c tc) : qX Γ X [c] tc := DN h
noncomputable def iu (g : cG) (tt : cQ) (te : aJ) : List Dv → aA → Mh → (List Dv → Mh → Prop) → Prop
  | [], _, M, Q => Q [] M
  | d :: ds, τ, M, Q => g d τ M fun aC M2 => tt aC M2 fun b M3 => if b = true then te aC M3 fun y M4 => iu g tt te ds aC M4 fun ys M5 => Q (y :: ys) M5 else iu g tt te ds aC M3 Q
structure Acc (Γ : Gz) (β : Bz) (D : Addr) (M1 : Mh) (H1 : Hp) (cj : aA) (M : Mh) (τ : St) (H : Hp) (acc : List V) (bU : List Dv) : Prop where
  ey : Ey M1 H1 M H
  m : M D = none
  zr : Zr Γ (β.add D) M cj τ H
  at' : H D = some (.lst acc)
  rs : aD (β.add D) M H acc bU
  h1 : H1 D = none
  h0 : Γ.H0 D = none
  nt : D ∉ β.tb
theorem Acc.start {D : Addr} {M1 : Mh} {H1 : Hp} {cj : aA} {τ : St} (zr : Zr Γ β M1 cj τ H1) (hD : H1 D = none) : Acc Γ β D M1 H1 cj M1 τ (upd H1 D (.lst [])) [] [] :=
  ⟨Ey.refl.over hD, zr.mz.free hD, zr.enter hD rfl, ay, .nil, hD, zr.ent.gone hD (by
    cases e : Γ.M0 D with
    | none => rfl
    | some u => have := zr.ent.dom D (by rw [e]; rfl); rw [zr.mz.free hD] at this; cases this), zr.mz.BF hD⟩
section
variable {D : Addr} {M1 M M2 : Mh} {H1 H H2 : Hp} {cj G8 : aA} {τ aC : St} {acc : List V} {bU : List Dv}
theorem Acc.step (A : Acc Γ β D M1 H1 cj M τ H acc bU) (x : Ex (β.add D) M H M2 H2) (z : Zr Γ (β.add D) M2 G8 aC H2) : Acc Γ β D M1 H1 G8 M2 aC H2 acc bU :=
  ⟨A.ey.trans x.toEy, x.new D _ A.m A.at', z, x.get A.m A.at' rfl, A.rs.ex x, A.h1, A.h0, A.nt⟩
theorem Acc.snoc (A : Acc Γ β D M1 H1 cj M τ H acc bU) {y : V} {d : Dv} (r : Rz (β.add D) M H y d) : Acc Γ β D M1 H1 cj M τ (upd H D (.lst (acc ++ [y]))) (acc ++ [y]) (bU ++ [d]) := by
  have hD : D ∈ (β.add D).hid := List.mem_cons_self
  exact ⟨A.ey.over A.h1, A.m, A.zr.over hD rfl A.m A.nt A.h0, ay, ⟨by simp [A.rs.len], fun i v d a b => ((A.rs.snoc r).at' i v d a b).over hD⟩, A.h1, A.h0, A.nt⟩
theorem Acc.fz (A : Acc Γ β D M1 H1 cj M τ H acc bU) (m1 : Mz β M1 H1) : Fz β M D := ⟨A.m, (m1.fz A.h1).2⟩
theorem Acc.mz (A : Acc Γ β D M1 H1 cj M τ H acc bU) : Mz β M H := Mz.sub (β := β.add D) (cx := β) rfl rfl rfl rfl (fun a h => List.mem_cons_of_mem _ h) A.zr.mz
theorem Acc.items (A : Acc Γ β D M1 H1 cj M τ H acc bU) : aD β M H acc bU := ⟨A.rs.len, fun i v d a b => Rz.sub (β := β.add D) (cx := β) rfl rfl rfl (fun a h => List.mem_cons_of_mem _ h) (A.rs.at' i v d a b)⟩
theorem Acc.ex (A : Acc Γ β D M1 H1 cj M τ H acc bU) : Ex β M1 H1 M H := ⟨A.ey, A.mz⟩
end
noncomputable def zComp (tn : Nat) (idx : List Nat) (zi : eJ) (g : cG) (tt : cQ) (te : aJ) : aJ := fun ρ M Q => zi ρ M fun ds M1 => ds.length < sizeLine ∧ iu g tt te ds (zBlock tn idx ρ) M1 fun ys M2 => Q (.lst ys) M2
noncomputable def zCompP (tn : Nat) (idx : List Nat) (zi : eJ) (g : cG) (tt : cQ) (te : aJ) : aJ := fun ρ M Q => zi ρ M fun ds M1 => ds.length < sizeLine ∧ iu g tt te ds (zBlock tn idx ρ) M1 fun ys M2 => ∀ a, M2 a = none → Q (.ptr a) (ax M2 a (.lst ys))
variable {zi : eJ} {g : cG} {tt : cQ} {te : aJ} {tn : Nat} {idx : List Nat}
noncomputable def lK (Γ : Gz) (β : Bz) (D : Addr) (M1 : Mh) (H1 : Hp) (g : cG) (tt : cQ) (te : aJ) (ds : List Dv) (Q' : List Dv → Mh → Prop) (i m : Nat) (τ : St) (H : Hp) : Prop :=
  m = ds.length - i ∧ i ≤ ds.length ∧ ∃ cj M acc bU, Acc Γ β D M1 H1 cj M τ H acc bU ∧ acc.length ≤ i ∧ iu g tt te (ds.drop i) cj M fun ys M2 => Q' (bU ++ ys) M2
theorem qY {D : Addr} {M1 : Mh} {H1 : Hp} {ds : List Dv} {Q' : List Dv → Mh → Prop} {J : It} (it : zk β J ds M1 H1) (hlen : ds.length < sizeLine) {i m : Nat} {τ : St} {H : Hp} (w : lK Γ β D M1 H1 g tt te ds Q' i m τ H)
    {C : V → St → Hp → Prop} (hC : ∀ y aC H4 acc, H4 D = some (.lst acc) → acc.length < sizeLine → (∃ m', m' < m ∧ lK Γ β D M1 H1 g tt te ds Q' (i + 1) m' aC (upd H4 D (.lst (acc ++ [y])))) → C y aC H4) :
    (J.stop i H ∧ ∃ cj M acc bU, Acc Γ β D M1 H1 cj M τ H acc bU ∧ acc.length < sizeLine ∧ Q' bU M) ∨
    (J.go i H ∧ ∀ x H', J.yld i H x H' → lG Γ g x τ H' fun aC H2 => lT Γ tt aC H2 fun b H3 => if b = true then lE Γ te aC H3 fun y H4 => C y aC H4 else ∃ m', m' < m ∧ lK Γ β D M1 H1 g tt te ds Q' (i + 1) m' aC H3) := by
  obtain ⟨rfl, hi, cj, M, acc, bU, A, Gx, h⟩ := w
  have q := it (β.add D) M H (.add A.h1) A.ey A.zr.mz i
  by_cases aU : i < ds.length
  · refine .inr ⟨(q.1 aU).1, fun x H' y => ?_⟩
    obtain ⟨x2, d, hd, rd⟩ := (q.1 aU).2 x H' y
    have e : ds.drop i = d :: ds.drop (i + 1) := by
      rw [List.drop_eq_getElem_cons aU]
      rw [List.getElem?_eq_getElem aU] at hd
      cases hd
      rfl
    rw [e] at h
    have A2 := A.step x2 (A.zr.step x2)
    refine ⟨β.add D, d, cj, M, _, A2.zr, rd, h, fun fE M3 lL H3 x3 z3 h3 => ?_⟩
    have A3 := A2.step x3 z3
    refine ⟨β.add D, fE, M3, _, z3, h3, fun b M4 H4 x4 h4 => ?_⟩
    have A4 := A3.step x4 (z3.step x4)
    cases b with
    | false =>
      dsimp only at h4 ⊢
      rw [if_neg Bool.false_ne_true] at h4 ⊢
      exact ⟨ds.length - (i + 1), by omega, rfl, aU, fE, M4, acc, bU, A4, by omega, h4⟩
    | true =>
      dsimp only at h4 ⊢
      rw [if_pos rfl] at h4 ⊢
      refine ⟨β.add D, fE, M4, _, A4.zr, h4, fun yd M5 yv H5 x5 r5 h5 => ?_⟩
      have A5 := A4.step x5 (A4.zr.step x5)
      refine hC yv lL H5 acc A5.at' (by omega) ⟨ds.length - (i + 1), by omega, rfl, aU, fE, M5, acc ++ [yv], bU ++ [yd], A5.snoc r5, by simp; omega, ?_⟩
      have e2 : (fun ys M2 => Q' (bU ++ [yd] ++ ys) M2) = fun ys M2 => Q' (bU ++ yd :: ys) M2 := by
        funext ys M2
        rw [List.append_assoc]
        rfl
      rw [e2]
      exact h5
  · have e : i = ds.length := by omega
    subst e
    rw [List.drop_length] at h
    refine .inl ⟨q.2 (Nat.le_refl _), cj, M, acc, bU, A, by omega, ?_⟩
    have h' : Q' (bU ++ []) M := h
    rwa [List.append_nil] at h'
theorem oU {D : Addr} {M1 : Mh} {H1 : Hp} {ds : List Dv} {Q' : List Dv → Mh → Prop} {cj : aA} {τ : St} (zr : Zr Γ β M1 cj τ H1) (hD : H1 D = none) (h : iu g tt te ds cj M1 Q') : lK Γ β D M1 H1 g tt te ds Q' 0 ds.length τ (upd H1 D (.lst [])) :=
  ⟨rfl, Nat.zero_le _, cj, M1, [], [], .start zr hD, Nat.le_refl _, h⟩
theorem G9 {σ : St} {H : Hp} {Q : VK} (h : lE Γ (zComp tn idx zi g tt te) σ H Q) : oA tn idx (lI Γ zi) (lG Γ g) (lT Γ tt) (lE Γ te) σ H Q := by
  obtain ⟨β, ρ, M, Q', zr, h, q⟩ := h
  refine ⟨β, ρ, M, _, zr, h, fun ds M1 H1 J x1 it ⟨hlen, h1⟩ D hD => ?_⟩
  have iz := zr.step x1
  refine ⟨lK Γ β D M1 H1 g tt te ds fun ys M2 => Q' (.lst ys) M2, ⟨_, oU (iz.block tn idx) hD h1⟩, fun i m τ H' w => ?_⟩
  rcases qY it hlen w (C := fun y aC H4 => ∃ ys m', H4 D = some (.lst ys) ∧ ys.length < sizeLine ∧ m' < m ∧ lK Γ β D M1 H1 g tt te ds (fun ys M2 => Q' (.lst ys) M2) (i + 1) m' aC (upd H4 D (.lst (ys ++ [y])))) (fun y aC H4 acc e hl ⟨m', hm, w'⟩ => ⟨acc, m', e, hl, hm, w'⟩) with ⟨hs, cj, M', acc, bU, A, _, hq⟩ | z
  · exact .inl ⟨hs, q _ _ _ _ (x1.trans A.ex) (oO (A.fz iz.mz) A.at' A.items) hq⟩
  · exact .inr z
theorem pU {σ : St} {H : Hp} {Q : VK} (h : lE Γ (zCompP tn idx zi g tt te) σ H Q) : oA tn idx (lI Γ zi) (lG Γ g) (lT Γ tt) (lE Γ te) σ H Q := by
  obtain ⟨β, ρ, M, Q', zr, h, q⟩ := h
  refine ⟨β, ρ, M, _, zr, h, fun ds M1 H1 J x1 it ⟨hlen, h1⟩ D hD => ?_⟩
  have iz := zr.step x1
  refine ⟨lK Γ β D M1 H1 g tt te ds fun ys M2 => ∀ a, M2 a = none → Q' (.ptr a) (ax M2 a (.lst ys)), ⟨_, oU (iz.block tn idx) hD h1⟩, fun i m τ H' w => ?_⟩
  rcases qY it hlen w (C := fun y aC H4 => ∃ ys m', H4 D = some (.lst ys) ∧ ys.length < sizeLine ∧ m' < m ∧ lK Γ β D M1 H1 g tt te ds (fun ys M2 => ∀ a, M2 a = none → Q' (.ptr a) (ax M2 a (.lst ys))) (i + 1) m' aC (upd H4 D (.lst (ys ++ [y])))) (fun y aC H4 acc e hl ⟨m', hm, w'⟩ => ⟨acc, m', e, hl, hm, w'⟩) with ⟨hs, cj, M', acc, bU, A, _, hq⟩ | z
  · refine .inl ⟨hs, ?_⟩
    have NI : D ∉ β.hid := (A.fz iz.mz).2
    have hM : M' D = none := A.m
    have mz : Mz β (ax M' D (.lst bU)) H' := by
      have rz : ∀ {v : V} {d : Dv}, Rz (β.add D) M' H' v d → Rz β (ax M' D (.lst bU)) H' v d := fun r => by
        have ne : ∀ a, Fz (β.add D) M' a → Fz β (ax M' D (.lst bU)) a := fun a f => ⟨by rw [aj (fun z => f.2 (by rw [z]; exact List.mem_cons_self))]; exact f.1, fun z => f.2 (List.mem_cons_of_mem _ z)⟩
        induction r with
        | int i => exact .int i
        | bl b => exact .bl b
        | ao => exact .ao
        | str z => exact .str z
        | tup m e hl h ih => exact .tup (ne _ m) e hl ih
        | lst m e hl h ih => exact .lst (ne _ m) e hl ih
        | dk m e hk hl h ih => exact .dk (ne _ m) e hk hl ih
        | dt m e hk hl h ih => exact .dt (ne _ m) e hk hl ih
        | bI m e m2 e2 hl h ih => exact .bI (ne _ m) e (ne _ m2) e2 hl ih
        | set m e => exact .set (ne _ m) e
        | ptr m => exact .ptr (by unfold ax; split; rfl; exact m)
        | exc m e => exact .exc (ne _ m) e
        | bq m e => exact .bq (ne _ m) e
        | cm m e => exact .cm (ne _ m) e
        | cn e => exact .cn e
        | raw v => exact .raw v
      refine ⟨fun a o e => ?_, A.zr.mz.tabs, fun a ha => A.zr.mz.hids a (List.mem_cons_of_mem _ ha), fun a o e z => ?_, A.zr.mz.lams⟩
      by_cases ha : a = D
      · subst ha
        rw [updM_same] at e
        cases e
        exact ⟨acc, A.at', A.rs.len, fun i v d a b => rz (A.rs.at' i v d a b)⟩
      · rw [aj ha] at e
        have z := A.zr.mz.obj a o e
        cases o with
        | lst ds => obtain ⟨vs, z, l, r⟩ := z; exact ⟨vs, z, l, fun i v d a b => rz (r i v d a b)⟩
        | dk ks ds => obtain ⟨vs, z, hk, l, r⟩ := z; exact ⟨vs, z, hk, l, fun i v d a b => rz (r i v d a b)⟩
        | dt ks ds => obtain ⟨vs, z, hk, l, r⟩ := z; exact ⟨vs, z, hk, l, fun i v d a b => rz (r i v d a b)⟩
        | c6 => exact z
      · by_cases ha : a = D
        · subst ha; exact NI z
        · rw [aj ha] at e
          exact A.zr.mz.apart a o e (List.mem_cons_of_mem _ z)
    have ey : Ey M1 H1 (ax M' D (.lst bU)) H' := ⟨A.ey.keep, fun a h => by unfold ax; split; rfl; exact A.ey.dom a h, fun a o m e => by rw [aj (aT e A.h1)]; exact A.ey.new a o m e⟩
    exact q _ _ _ _ (x1.trans ⟨ey, mz⟩) (.ptr (by rw [updM_same]; rfl)) (hq D hM)
  · exact .inr z
theorem Ma {P : Addr} {zi : eJ} {R : It → Hp → Prop} {σ : St} {H : Hp} {ρ : aA} {M : Mh} {R' : List Dv → Mh → Prop} (hP : P ∈ Γ.tb) (zr : Zr Γ β M ρ σ H) (h : zi ρ M R') (q : ∀ ds M' H' J, Ex β M H M' H' → zk β J ds M' H' → R' ds M' → R J H') : F9 P (lI Γ zi) R σ H := by
  refine ⟨β, ρ, M, _, zr, h, fun ds M1 H1 J x1 it h1 => ?_⟩
  have CC : P ∈ β.tb := by rw [zr.et]; exact hP
  refine ⟨x1.mz.tabs P CC, fun ps t => ?_⟩
  have x2 := Ex.grow x1.mz CC t
  refine q ds M1 _ J (x1.trans x2) (fun cx M' H' bx ey mz => it cx M' H' ⟨bx.P, bx.w, bx.K, bx.tb, bx.old, fun a ha => ?_⟩ (x2.toEy.trans ey) mz) h1
  rcases bx.new a ha with z | z
  · exact .inl z
  · right
    cases e : H1 a with
    | none => rfl
    | some o => obtain ⟨u, hu⟩ := BE (p := P) (o := .cC ps) ⟨o, e⟩; rw [z] at hu; cases hu
noncomputable def jA (g : cG) (tt : cQ) (te : aJ) : List Dv → aA → Mh → (Bool → Mh → Prop) → Prop
  | [], _, M, Q => Q true M
  | d :: ds, τ, M, Q => g d τ M fun aC M2 => tt aC M2 fun b M3 => if b = true then te aC M3 (zBool fun c M4 => if c = false then Q false M4 else jA g tt te ds aC M4 Q) else jA g tt te ds aC M3 Q
noncomputable def zAll (tn : Nat) (idx : List Nat) (zi : eJ) (g : cG) (tt : cQ) (te : aJ) : aJ := fun ρ M Q => zi ρ M fun ds M1 => jA g tt te ds (zBlock tn idx ρ) M1 fun b M2 => Q (.bl b) M2
theorem Jz {P : Addr} (hP : P ∈ Γ.tb) {σ : St} {H : Hp} {Q : VK} (h : lE Γ (zAll tn idx zi g tt te) σ H Q) : Ga P tn idx (lI Γ zi) (lG Γ g) (lT Γ tt) (lE Γ te) σ H Q := by
  obtain ⟨β, ρ, M, Q', zr, h, q⟩ := h
  refine Ma hP zr h fun ds M1 H1 J x1 it h1 => ?_
  have iz := zr.step x1
  refine ⟨fun i m τ H' => m = ds.length - i ∧ i ≤ ds.length ∧ ∃ cj M', Ex β M1 H1 M' H' ∧ Zr Γ β M' cj τ H' ∧ jA g tt te (ds.drop i) cj M' fun b M2 => Q' (.bl b) M2, ⟨_, rfl, Nat.zero_le _, _, M1, .refl x1.mz, iz.block tn idx, h1⟩, ?_⟩
  rintro i m τ H' ⟨rfl, hi, cj, M', x', eL, h'⟩
  have qq := it β M' H' .refl x'.toEy x'.mz i
  by_cases aU : i < ds.length
  · refine .inr ⟨(qq.1 aU).1, fun x j4 y => ?_⟩
    obtain ⟨x2, d, hd, rd⟩ := (qq.1 aU).2 x j4 y
    have e : ds.drop i = d :: ds.drop (i + 1) := by
      rw [List.drop_eq_getElem_cons aU]
      rw [List.getElem?_eq_getElem aU] at hd
      cases hd
      rfl
    rw [e] at h'
    refine ⟨β, d, cj, M', _, eL.step x2, rd, h', fun fE M3 lL H3 x3 z3 h3 => ⟨β, fE, M3, _, z3, h3, fun b M4 H4 x4 h4 => ?_⟩⟩
    have kL := x'.trans (x2.trans (x3.trans x4))
    cases b with
    | false =>
      dsimp only at h4 ⊢
      rw [if_neg Bool.false_ne_true] at h4 ⊢
      exact ⟨ds.length - (i + 1), by omega, rfl, aU, fE, M4, kL, z3.step x4, h4⟩
    | true =>
      dsimp only at h4 ⊢
      rw [if_pos rfl] at h4 ⊢
      refine ⟨β, fE, M4, _, z3.step x4, h4, fun yd M5 yv H5 x5 r5 h5 => ?_⟩
      obtain ⟨k, rfl, h6⟩ := ja h5
      refine ⟨k, dw r5, ?_⟩
      cases k with
      | false =>
        rw [if_pos rfl] at h6 ⊢
        exact q _ _ _ _ (x1.trans (kL.trans x5)) (.bl _) h6
      | true =>
        rw [if_neg (by decide)] at h6 ⊢
        exact ⟨ds.length - (i + 1), by omega, rfl, aU, fE, M5, kL.trans x5, (z3.step x4).step x5, h6⟩
  · have e : i = ds.length := by omega
    subst e
    rw [List.drop_length] at h'
    exact .inl ⟨qq.2 (Nat.le_refl _), q _ _ _ _ (x1.trans x') (.bl _) h'⟩
end
section
variable {X : Cx} {Γ : Gz} {β : Bz} {K : PySem.W.Frag}
noncomputable def zII (f : Int → Int → Dv) : dP := fun d e M Q => match d, e with | .int i, .int j => Q (f i j) M | _, _ => False
noncomputable def zIC (C : Int → Int → Prop) (f : Int → Int → Dv) : dP := fun d e M Q => match d, e with | .int i, .int j => C i j ∧ Q (f i j) M | _, _ => False
theorem lM {g : Int → Int → V} {f : Int → Int → Dv} (h : ∀ β M H i j, Rz β M H (g i j) (f i j)) : m9 Γ (qu g) (zII f) := fun β x y d e M H Q Q' _ _ _ m rx ry z q => by
  unfold zII at z
  split at z
  · exact ⟨_, _, aK rx, aK ry, q _ _ _ _ (.refl m) (h ..) z⟩
  · exact z.elim
theorem oV {C : Int → Int → Prop} {g : Int → Int → V} {f : Int → Int → Dv} (h : ∀ β M H i j, Rz β M H (g i j) (f i j)) : m9 Γ (rI C g) (zIC C f) := fun β x y d e M H Q Q' _ _ _ m rx ry z q => by
  unfold zIC at z
  split at z
  · exact ⟨_, _, aK rx, aK ry, z.1, q _ _ _ _ (.refl m) (h ..) z.2⟩
  · exact z.elim
theorem gV : dQ Γ X (binaryOp .Add) (zII fun i j => .int (i + j)) := ⟨_, FC, lM fun _ _ _ _ _ => .int _⟩
theorem JA : dQ Γ X (binaryOp .Sub) (zII fun i j => .int (i - j)) := ⟨_, FD, lM fun _ _ _ _ _ => .int _⟩
theorem mI : dQ Γ X (binaryOp .Mult) (zIC vY fun i j => .int (i * j)) := ⟨_, FE, oV fun _ _ _ _ _ => .int _⟩
theorem zt : dQ Γ X (binaryOp .FloorDiv) (zIC Fy fun i j => .int (i / j)) := ⟨_, DC, oV fun _ _ _ _ _ => .int _⟩
theorem iH : dQ Γ X (binaryOp .Mod) (zIC (fun _ j => 0 < j) fun i j => .int (i % j)) := ⟨_, FG, oV fun _ _ _ _ _ => .int _⟩
theorem JB : dQ Γ X (binaryOp .Pow) (zIC FA fun i j => .int (i ^ j.toNat)) := ⟨_, FH, oV fun _ _ _ _ _ => .int _⟩
theorem pV : dQ Γ X (compareOp .Lt) (zII fun i j => .bl (decide (i < j))) := ⟨_, Jb, lM fun _ _ _ _ _ => .bl _⟩
theorem wV : dQ Γ X (compareOp .LtE) (zII fun i j => .bl (decide (i ≤ j))) := ⟨_, Jc, lM fun _ _ _ _ _ => .bl _⟩
theorem Ha : dQ Γ X (compareOp .Gt) (zII fun i j => .bl (decide (j < i))) := ⟨_, Jd, lM fun _ _ _ _ _ => .bl _⟩
noncomputable def scalZ (d e : Dv) : Option Bool := match d with
  | .int i => (match e with | .int j => some (decide (i = j)) | .ao => some false | .str _ => some false | _ => none)
  | .bl i => (match e with | .bl j => some (decide (i = j)) | .ao => some false | .str _ => some false | _ => none)
  | .str i => (match e with | .str j => some (decide (i = j)) | .ao => some false | .int _ => some false | .bl _ => some false | _ => none)
  | .ao => (match e with | .ao => some true | .int _ => some false | .bl _ => some false | .str _ => some false | _ => none)
  | _ => none
noncomputable def zEq : dP := fun d e M Q => match scalZ d e with | some b => Q (.bl b) M | none => False
noncomputable def zNe : dP := fun d e M Q => match scalZ d e with | some b => Q (.bl (!b)) M | none => False
theorem tD {M : Mh} {H : Hp} {x y : V} {d e : Dv} {b : Bool} (rx : Rz β M H x d) (ry : Rz β M H y e) (h : scalZ d e = some b) : AQ x y = true ∧ decide (x = y) = b := by
  unfold scalZ at h
  split at h
  · rw [aK rx]
    split at h <;> cases h
    · rw [aK ry]; exact ⟨rfl, by simp⟩
    · rw [eG ry]; exact ⟨rfl, by simp⟩
    · rw [cU ry]; exact ⟨rfl, by simp⟩
  · rw [dw rx]
    split at h <;> cases h
    · rw [dw ry]; exact ⟨rfl, by simp⟩
    · rw [eG ry]; exact ⟨rfl, by simp⟩
    · rw [cU ry]; exact ⟨rfl, by simp⟩
  · rw [cU rx]
    split at h <;> cases h
    · rw [cU ry]; exact ⟨rfl, by simp⟩
    · rw [eG ry]; exact ⟨rfl, by simp⟩
    · rw [aK ry]; exact ⟨rfl, by simp⟩
    · rw [dw ry]; exact ⟨rfl, by simp⟩
  · rw [eG rx]
    split at h <;> cases h
    · rw [eG ry]; exact ⟨rfl, by simp⟩
    · rw [aK ry]; exact ⟨rfl, by simp⟩
    · rw [dw ry]; exact ⟨rfl, by simp⟩
    · rw [cU ry]; exact ⟨rfl, by simp⟩
  · cases h
theorem jc : dQ Γ X (compareOp .Eq) zEq := ⟨_, IZ, fun β x y d e M H Q Q' _ _ _ m rx ry z q => by
  unfold zEq at z
  split at z
  · rename_i b hb
    obtain ⟨h1, h2⟩ := tD rx ry hb
    exact ⟨h1, by rw [h2]; exact q _ _ _ _ (.refl m) (.bl _) z⟩
  · exact z.elim⟩
theorem Mb : dQ Γ X (compareOp .NotEq) zNe := ⟨_, Ja, fun β x y d e M H Q Q' _ _ _ m rx ry z q => by
  unfold zNe at z
  split at z
  · rename_i b hb
    obtain ⟨h1, h2⟩ := tD rx ry hb
    exact ⟨h1, by rw [h2]; exact q _ _ _ _ (.refl m) (.bl _) z⟩
  · exact z.elim⟩
noncomputable def isNonD : Dv → Option Bool
  | .ao => some true
  | .raw _ => none
  | _ => some false
theorem qZ {M : Mh} {H : Hp} {x : V} {d : Dv} {b : Bool} (r : Rz β M H x d) (h : isNonD d = some b) : decide (x = .ao) = b := by
  cases r <;> simp [isNonD] at h ⊢ <;> exact h
noncomputable def zIsN (neg : Bool) : dP := fun d e M Q => match e, isNonD d with | .ao, some b => Q (.bl (if neg then !b else b)) M | _, _ => False
theorem JC : dQ Γ X (compareOp .Is) (zIsN false) := ⟨_, FI, fun β x y d e M H Q Q' _ _ _ m rx ry z q => by
  unfold zIsN at z
  split at z
  · rename_i b hb
    exact ⟨eG ry, by rw [qZ rx hb]; exact q _ _ _ _ (.refl m) (.bl _) z⟩
  · exact z.elim⟩
theorem zu : dQ Γ X (compareOp .IsNot) (zIsN true) := ⟨_, DE, fun β x y d e M H Q Q' _ _ _ m rx ry z q => by
  unfold zIsN at z
  split at z
  · rename_i b hb
    exact ⟨eG ry, by rw [qZ rx hb]; exact q _ _ _ _ (.refl m) (.bl _) z⟩
  · exact z.elim⟩
noncomputable def zSS (C : Str → Str → Prop) (f : Str → Str → Dv) : dP := fun d e M Q => match d, e with | .str i, .str j => C i j ∧ Q (f i j) M | _, _ => False
theorem lN : dQ Γ X (binaryOp .Add) (zSS (fun i j => i.length + j.length ≤ sizeLine) fun i j => .str (i ++ j)) := ⟨_, v7, fun β x y d e M H Q Q' _ _ _ m rx ry z q => by
  unfold zSS at z
  split at z
  · exact ⟨_, _, cU rx, cU ry, z.1, q _ _ _ _ (.refl m) (.str _) z.2⟩
  · exact z.elim⟩
mutual
noncomputable def bK : Dv → Option Dt
  | .int i => some (.int i)
  | .bl b => some (.bl b)
  | .ao => some .ao
  | .str z => some (.str z)
  | .tup ds => (fw ds).map .tup
  | .lst ds => (fw ds).map .lst
  | _ => none
noncomputable def fw : List Dv → Option (List Dt)
  | [] => some []
  | d :: ds => match bK d, fw ds with | some a, some as => some (a :: as) | _, _ => none
end
theorem km : ∀ {ds : List Dv} {ts : List Dt}, fw ds = some ts → ds.length = ts.length ∧ ∀ (i : Nat) (d : Dv) (t : Dt), ds[i]? = some d → ts[i]? = some t → bK d = some t
  | [], ts, h => by simp only [fw, Option.some.injEq] at h; subst h; exact ⟨rfl, fun i d t a => by simp at a⟩
  | d :: ds, ts, h => by
    simp only [fw] at h
    split at h
    · rename_i a as h1 h2
      cases h
      obtain ⟨hl, q⟩ := km h2
      refine ⟨by simp [hl], fun i e t x y => ?_⟩
      cases i with
      | zero => simp at x y; subst x y; exact h1
      | succ i => rw [List.getElem?_cons_succ] at x y; exact q i e t x y
    · cases h
theorem zv {M : Mh} {H : Hp} {v : V} {d : Dv} (h : Rz β M H v d) : ∀ {t : Dt}, bK d = some t → c5 H v t := by
  induction h with
  | int i => intro t e; simp only [bK, Option.some.injEq] at e; subst e; exact .int i
  | bl b => intro t e; simp only [bK, Option.some.injEq] at e; subst e; exact .bl b
  | ao => intro t e; simp only [bK, Option.some.injEq] at e; subst e; exact .ao
  | str z => intro t e; simp only [bK, Option.some.injEq] at e; subst e; exact .str z
  | tup m e hl h ih =>
    intro t q
    simp only [bK, Option.map_eq_some_iff] at q
    obtain ⟨ts, q, rfl⟩ := q
    obtain ⟨l2, at2⟩ := km q
    refine .tup e (hl.trans l2) fun i x d hx hd => ?_
    have hi := (List.getElem?_eq_some_iff.mp hd).1
    have := List.getElem?_eq_getElem (l := _) (i := i) (show i < _ from l2 ▸ hi)
    exact ih i x _ hx this (at2 i _ _ this hd)
  | lst m e hl h ih =>
    intro t q
    simp only [bK, Option.map_eq_some_iff] at q
    obtain ⟨ts, q, rfl⟩ := q
    obtain ⟨l2, at2⟩ := km q
    refine .lst e (hl.trans l2) fun i x d hx hd => ?_
    have hi := (List.getElem?_eq_some_iff.mp hd).1
    have := List.getElem?_eq_getElem (l := _) (i := i) (show i < _ from l2 ▸ hi)
    exact ih i x _ hx this (at2 i _ _ this hd)
  | set m e => intro t q; simp [bK] at q
  | ptr m => intro t q; simp [bK] at q
  | exc m e => intro t q; simp [bK] at q
  | bq m e => intro t q; simp [bK] at q
  | cm m e => intro t q; simp [bK] at q
  | cn e => intro t q; simp [bK] at q
  | dk m e hk hl h ih => intro t q; simp [bK] at q
  | dt m e hk hl h ih => intro t q; simp [bK] at q
  | bI m e m2 e2 hl h ih => intro t q; simp [bK] at q
  | raw v => intro t q; simp [bK] at q
noncomputable def now (M : Mh) : Dv → Dv
  | .ptr a => match M a with | some (.lst ds) => .lst ds | _ => .ptr a
  | d => d
theorem mJ {M : Mh} {H : Hp} {v : V} {d : Dv} (m : Mz β M H) (h : Rz β M H v d) {t : Dt} (e : bK (now M d) = some t) : c5 H v t := by
  cases d with
  | ptr a =>
    simp only [now] at e
    obtain ⟨rfl, hs⟩ := cF h
    cases q : M a with
    | none => rw [q] at hs; cases hs
    | some o =>
      rw [q] at e
      cases o with
      | c6 => simp [bK] at e
      | dk ks es => simp [bK] at e
      | dt ks es => simp [bK] at e
      | lst ds =>
        obtain ⟨vs, hv, rs⟩ := m.obj a _ q
        simp only [bK, Option.map_eq_some_iff] at e
        obtain ⟨ts, q, rfl⟩ := e
        obtain ⟨l2, at2⟩ := km q
        refine .lst hv (rs.len.trans l2) fun i x d hx hd => ?_
        have hi := (List.getElem?_eq_some_iff.mp hd).1
        have := List.getElem?_eq_getElem (l := _) (i := i) (show i < _ from l2 ▸ hi)
        exact zv (rs.at' i x _ hx this) (at2 i _ _ this hd)
  | _ => exact zv h e
noncomputable def nN (neg : Bool) : dP := fun d e M Q => match bK (now M d), bK (now M e) with | some a, some b => fS a ≤ 60 ∧ Q (.bl (if neg then !bR a b else bR a b)) M | _, _ => False
theorem vy {neg : Bool} : m9 Γ (Bs neg) (nN neg) := fun β x y d e M H Q Q' _ _ _ m rx ry z q => by
  unfold nN at z
  split at z
  · rename_i a b h1 h2
    exact ⟨a, b, mJ m rx h1, mJ m ry h2, z.1, q _ _ _ _ (.refl m) (.bl _) z.2⟩
  · exact z.elim
theorem JD (hu : X.A.units + 64 < cLine) : dQ Γ X (compareOp .Eq) (nN false) := ⟨_, GH hu, vy⟩
theorem JE (hu : X.A.units + 64 < cLine) : dQ Γ X (compareOp .NotEq) (nN true) := ⟨_, GI hu, vy⟩
noncomputable def itemsM (M : Mh) : Dv → Option (List Dv)
  | .tup ds => some ds
  | .lst ds => some ds
  | .ptr a => match M a with | some (.lst ds) => some ds | _ => none
  | _ => none
theorem jd {M : Mh} {H : Hp} {x : V} {d : Dv} {ds : List Dv} (m : Mz β M H) (r : Rz β M H x d) (h : itemsM M d = some ds) : ∃ a vs, x = .ref a ∧ (H a = some (.lst vs) ∨ H a = some (.tup vs)) ∧ aD β M H vs ds := by
  cases d with
  | tup es => cases h; obtain ⟨a, vs, e, _, h, rs⟩ := dm r; exact ⟨a, vs, e, .inr h, rs⟩
  | lst es => cases h; obtain ⟨a, vs, e, _, h, rs⟩ := fT r; exact ⟨a, vs, e, .inl h, rs⟩
  | ptr a =>
    obtain ⟨rfl, hs⟩ := cF r
    simp only [itemsM] at h
    split at h
    · rename_i es q
      cases h
      obtain ⟨vs, hv, rs⟩ := m.obj a _ q
      exact ⟨a, vs, rfl, .inl hv, rs⟩
    · cases h
  | _ => cases h
theorem Eb {M : Mh} {H : Hp} {vs : List V} {ds : List Dv} (rs : aD β M H vs ds) {i : Int} {d : Dv} (h : cZ ds i = some d) : ∃ v, cZ vs i = some v ∧ Rz β M H v d := by
  unfold cZ at h ⊢
  rw [rs.len]
  cases e : g7 ds.length i with
  | none => rw [e] at h; cases h
  | some j =>
    rw [e] at h
    obtain ⟨v, hv, r⟩ := rs.get (i := j) (d := d) h
    exact ⟨v, hv, r⟩
noncomputable def Hb (Γ : Gz) (X : Cx) (z : dP) : Prop := ∃ r, kX X r ∧ m9 Γ r z
noncomputable def zIx : dP := fun d e M Q => match e with
  | .int i => (match d with
    | .str z => z.length ≤ sizeLine ∧ (match cZ z.cps.toList i with | some c => Q (.str ⟨#[c]⟩) M | none => False)
    | _ => match itemsM M d with | some ds => (match cZ ds i with | some r => Q r M | none => False) | none => False)
  | _ => False
theorem cH (hK : X.K = K) : Hb Γ X zIx := ⟨_, vf hK, fun β x y d e M H Q Q' _ _ _ m rx ry z q => by
  unfold zIx at z
  split at z
  · rename_i i
    have hy := aK ry
    split at z
    · rename_i s
      obtain ⟨hz, z⟩ := z
      split at z
      · rename_i c hc
        exact .inr (.inr ⟨s, i, c, cU rx, hy, hz, hc, q _ _ _ _ (.refl m) (.str _) z⟩)
      · exact z.elim
    · split at z
      · rename_i ds ng
        obtain ⟨a, vs, rfl, ha, rs⟩ := jd m rx ng
        split at z
        · rename_i r hr
          obtain ⟨v, hv, rv⟩ := Eb rs hr
          have z' := q _ _ _ _ (.refl m) rv z
          rcases ha with ha | ha
          · exact .inl ⟨a, vs, i, v, rfl, hy, bH.of ha, hv, z'⟩
          · exact .inr (.inl ⟨a, vs, i, v, rfl, hy, cu.of ha, hv, z'⟩)
        · exact z.elim
      · exact z.elim
  · exact z.elim⟩
theorem bC {a b : Expr} {pa pb : aJ} {z : dP} {pos : Pos} (hr : Hb Γ X z) (ha : QE Γ X a pa) (hb : QE Γ X b pb) (hs : vc b) : QE Γ X (.Subscript a b pos) (zOp z pa pb) := by
  obtain ⟨r, h1, h2⟩ := hr
  exact (Jf h1 ha hb hs).imp fun σ H Q h => wR h2 h
end
section
variable {X : Cx} {Γ : Gz} {β : Bz} {K : PySem.W.Frag}
section
variable {x : Str} {p pos : Pos} {e : Expr} {es : List Expr} {za : eB} {id T : String} {z : qV}
theorem aH (hc : fv Γ X (.builtin id) z) (hg : Gl X x) (hm : X.mg x = none) (hv : bootBuiltins x = some (.builtin id)) (ha : QA Γ X (e :: es) za) (hn : x ≠ "__name__" := by decide) (eE : (x == ("__debug__" : Str)) = false := by decide)
    (he : starEach (e :: es) X.env = (false, eval e X.env) :: starEach es X.env := by rfl) (bV : (backTo pos (starEach es X.env)).any (·.1) = false := by rfl) : QE Γ X (.Call (.Name x p) (e :: es) [] pos) (zCB z za) := by
  obtain ⟨r, h1, h2⟩ := hc
  exact (A0 h1 hg hm hv ha hn eE he bV).imp fun σ H Q h => G4 h2 h
theorem ig (hc : fv Γ X (.type T) z) (hg : Gl X x) (hm : X.mg x = none) (hv : bootBuiltins x = some (.type T)) (ha : QA Γ X (e :: es) za) (hn : x ≠ "__name__" := by decide) (eE : (x == ("__debug__" : Str)) = false := by decide)
    (he : starEach (e :: es) X.env = (false, eval e X.env) :: starEach es X.env := by rfl) (bV : (backTo pos (starEach es X.env)).any (·.1) = false := by rfl) : QE Γ X (.Call (.Name x p) (e :: es) [] pos) (zCB z za) := by
  obtain ⟨r, h1, h2⟩ := hc
  exact (yo h1 hg hm hv ha hn eE he bV).imp fun σ H Q h => G4 h2 h
end
noncomputable def z1 (f : Dv → Mh → ZK → Prop) : qV := fun ds M Q => match ds with | [d] => f d M Q | _ => False
noncomputable def zLenD (d : Dv) (M : Mh) (Q : ZK) : Prop := match d with
  | .str s => s.length ≤ sizeLine ∧ Q (.int s.length) M
  | .bq ns => Q (.int ns.length) M
  | _ => match itemsM M d with | some ds => Q (.int ds.length) M | none => False
theorem dX (hK : X.K = K) (hG : K = Γ.K) : fv Γ X (.builtin "len") (z1 zLenD) := ⟨_, yI hK, fun β xs ds M H Q Q' _ _ eK m rs z q => by
  rw [← hG] at eK
  unfold z1 at z
  split at z
  · rename_i d
    obtain ⟨x, rfl, r⟩ := ee rs
    unfold zLenD at z
    split at z
    · rename_i s
      have e := cU r
      subst e
      exact ⟨_, _, rfl, ⟨z.1, rfl⟩, q _ _ _ _ (.refl m) (.int _) z.2⟩
    · rename_i ns
      obtain ⟨a, rfl, h⟩ := qU r
      rw [eK] at h
      exact ⟨_, ns.length, rfl, .inl ⟨_, h, by simp⟩, q _ _ _ _ (.refl m) (.int _) z⟩
    · split at z
      · rename_i ds ng
        obtain ⟨a, vs, rfl, ha, fU⟩ := jd m r ng
        have q' := q _ _ (.int ds.length) _ (.refl m) (.int _) z
        rcases ha with ha | ha
        · exact ⟨_, ds.length, rfl, .inl ⟨vs, bH.of ha, fU.len.symm⟩, q'⟩
        · exact ⟨_, ds.length, rfl, .inr ⟨vs, cu.of ha, fU.len.symm⟩, q'⟩
      · exact z.elim
  · exact z.elim⟩
noncomputable def z2I (f : Int → Int → Int) : qV := fun ds M Q => match ds with | [.int i, .int j] => Q (.int (f i j)) M | _ => False
theorem zx (hc : X.calm = true) : fv Γ X (.builtin "max") (z2I fun i j => if j > i then j else i) := ⟨_, yh hc, fun β xs ds M H Q Q' _ _ _ m rs z q => by
  unfold z2I at z
  split at z
  · obtain ⟨x, y, rfl, r, r'⟩ := mH rs
    rw [aK r, aK r']
    exact ⟨_, _, rfl, q _ _ _ _ (.refl m) (.int _) z⟩
  · exact z.elim⟩
theorem tE (hc : X.calm = true) : fv Γ X (.builtin "min") (z2I fun i j => if j < i then j else i) := ⟨_, yi hc, fun β xs ds M H Q Q' _ _ _ m rs z q => by
  unfold z2I at z
  split at z
  · obtain ⟨x, y, rfl, r, r'⟩ := mH rs
    rw [aK r, aK r']
    exact ⟨_, _, rfl, q _ _ _ _ (.refl m) (.int _) z⟩
  · exact z.elim⟩
noncomputable def zAbs (d : Dv) (M : Mh) (Q : ZK) : Prop := match d with | .int i => Q (.int (if i < 0 then -i else i)) M | _ => False
theorem JF : fv Γ X (.builtin "abs") (z1 zAbs) := ⟨_, AX, fun β xs ds M H Q Q' _ _ _ m rs z q => by
  unfold z1 at z
  split at z
  · obtain ⟨x, rfl, r⟩ := ee rs
    unfold zAbs at z
    split at z
    · rw [aK r]
      exact ⟨_, rfl, q _ _ _ _ (.refl m) (.int _) z⟩
    · exact z.elim
  · exact z.elim⟩
noncomputable def zList (d : Dv) (M : Mh) (Q : ZK) : Prop := match itemsM M d with | some ds => Q (.lst ds) M | none => False
theorem Hc (hK : X.K = K) : fv Γ X (.type "list") (z1 zList) := ⟨_, rJ hK, fun β xs ds M H Q Q' _ _ _ m rs z q => by
  unfold z1 at z
  split at z
  · obtain ⟨x, rfl, r⟩ := ee rs
    unfold zList at z
    split at z
    · rename_i ds ng
      obtain ⟨a, vs, rfl, ha, fU⟩ := jd m r ng
      refine ⟨a, vs, rfl, ha.imp bH.of cu.of, fun l hl => ?_⟩
      have x2 := Ex.lay m hl (.lst vs)
      exact q _ _ _ _ x2 (oO (m.fz hl) ay (fU.ex x2)) z
    · exact z.elim
  · exact z.elim⟩
noncomputable def zTuple (d : Dv) (M : Mh) (Q : ZK) : Prop := match itemsM M d with | some ds => Q (.tup ds) M | none => False
theorem pW (hK : X.K = K) : fv Γ X (.type "tuple") (z1 zTuple) := ⟨_, pM hK, fun β xs ds M H Q Q' _ _ _ m rs z q => by
  unfold z1 at z
  split at z
  · rename_i d
    obtain ⟨x, rfl, r⟩ := ee rs
    unfold zTuple at z
    split at z
    · rename_i ds ng
      obtain ⟨a, vs, rfl, ha, fU⟩ := jd m r ng
      refine ⟨a, vs, rfl, ?_⟩
      rcases ha with ha | ha
      · refine .inl ⟨bH.of ha, fun l hl => ?_⟩
        have x2 := Ex.lay m hl (.tup vs)
        exact q _ _ _ _ x2 (lz (m.fz hl) ay (fU.ex x2)) z
      · refine .inr ⟨cu.of ha, ?_⟩
        have f : Fz β M a := by
          cases d with
          | tup es => obtain ⟨b, us, e, f, _⟩ := dm r; cases e; exact f
          | lst es => obtain ⟨b, us, e, f, _⟩ := fT r; cases e; exact f
          | ptr b =>
            obtain ⟨e, hs⟩ := cF r
            cases e
            cases q2 : M a with
            | none => rw [q2] at hs; cases hs
            | some o => have := m.j0 ha rfl; rw [q2] at this; cases this
          | _ => cases ng
        exact q _ _ _ _ (.refl m) (lz f ha fU) z
    · exact z.elim
  · exact z.elim⟩
noncomputable def eW : List Dv → Option (List Int)
  | [] => some []
  | .int i :: ds => (eW ds).map (i :: ·)
  | _ :: _ => none
theorem tF : ∀ {ds : List Dv} {ns : List Int}, eW ds = some ns → ds = ns.map Dv.int
  | [], ns, h => by simp only [eW, Option.some.injEq] at h; subst h; rfl
  | d :: ds, ns, h => by
    cases d with
    | int i =>
      simp only [eW, Option.map_eq_some_iff] at h
      obtain ⟨ms, h, rfl⟩ := h
      rw [tF h]
      rfl
    | _ => simp [eW] at h
theorem fV : ∀ ns : List Int, eW (ns.map Dv.int) = some ns
  | [] => rfl
  | n :: ns => by simp [eW, fV ns]
theorem nO {M : Mh} {H : Hp} : ∀ {vs : List V} {ns : List Int}, aD β M H vs (ns.map Dv.int) → vs = ns.map V.int
  | [], [], _ => rfl
  | [], _ :: _, r => absurd r.len (by simp)
  | _ :: _, [], r => absurd r.len (by simp)
  | v :: vs, n :: ns, r => by
    rw [List.map_cons] at r
    rw [List.map_cons, aK r.head, nO r.tail]
theorem nQ {M : Mh} {H : Hp} : ∀ {ns : List Int}, aD β M H (ns.map V.int) (ns.map Dv.int)
  | [] => .nil
  | n :: ns => .cons (.int _) nQ
noncomputable def intsM (M : Mh) (d : Dv) : Option (List Int) := match d with | .set ns => some ns | _ => (itemsM M d).bind eW
noncomputable def zSorted (d : Dv) (M : Mh) (Q : ZK) : Prop := match intsM M d with | some ns => ns.length < 64 ∧ Q (.lst ((sortI ns).map .int)) M | none => False
theorem q9 {M : Mh} {H : Hp} {x : V} {d : Dv} {ns : List Int} (m : Mz β M H) (r : Rz β M H x d) (h : (itemsM M d).bind eW = some ns) : ∃ a, x = .ref a ∧ (H a = some (.lst (ns.map V.int)) ∨ H a = some (.tup (ns.map V.int))) := by
  cases e : itemsM M d with
  | none => rw [e] at h; cases h
  | some ds =>
    rw [e] at h
    obtain ⟨a, vs, rfl, ha, rs⟩ := jd m r e
    have e2 := tF (ns := ns) h
    subst e2
    have := nO rs
    subst this
    exact ⟨a, rfl, ha⟩
theorem tG (hP : X.prog = Γ.P) (hw : X.w = Γ.w) (hK : X.K = K) (hc : X.calm = true) : fv Γ X (.builtin "sorted") (z1 zSorted) := ⟨_, rK hP hw hK hc, fun β xs ds M H Q Q' eP ew _ m rs z q => by
  unfold z1 at z
  split at z
  · rename_i d
    obtain ⟨x, rfl, r⟩ := ee rs
    unfold zSorted at z
    split at z
    · rename_i ns fP
      have fin : ∀ l, H l = none → Q (.ref l) (upd H l (.lst ((sortI ns).map V.int))) := fun l hl => by
        have x2 := Ex.lay m hl (.lst ((sortI ns).map V.int))
        exact q _ _ _ _ x2 (oO (m.fz hl) ay nQ) z.2
      unfold intsM at fP
      split at fP
      · cases fP
        obtain ⟨a, rfl, f, h⟩ := zj r
        rw [eP, ew] at h
        exact ⟨a, _, rfl, .inl h, z.1, fin⟩
      · obtain ⟨a, rfl, ha⟩ := q9 m r fP
        exact ⟨a, _, rfl, .inr (ha.imp bH.of cu.of), z.1, fin⟩
    · exact z.elim
  · exact z.elim⟩
noncomputable def zSet (d : Dv) (M : Mh) (Q : ZK) : Prop := match (itemsM M d).bind eW with | some ns => ns.length + 1 < scanBound ∧ Q (.set (cR ns)) M | none => False
theorem JG (hP : X.prog = Γ.P) (hw : X.w = Γ.w) (hK : X.K = K) (hc : X.calm = true) : fv Γ X (.type "set") (z1 zSet) := by
  refine ⟨sV Γ.P Γ.w K, by rw [← hP, ← hw]; exact wK hK hc, fun β xs ds M H Q Q' eP ew _ m rs z q => ?_⟩
  unfold z1 at z
  split at z
  · rename_i d
    obtain ⟨x, rfl, r⟩ := ee rs
    unfold zSet at z
    split at z
    · rename_i ns fP
      obtain ⟨a, rfl, ha⟩ := q9 m r fP
      refine ⟨a, ns, rfl, ha.imp bH.of cu.of, z.1, fun l hl => ?_⟩
      have x2 := Ex.lay m hl (fA Γ.P Γ.w l (cR ns))
      exact q _ _ _ _ x2 (.set (m.fz hl) (by rw [eP, ew]; exact ay)) z.2
    · exact z.elim
  · exact z.elim
noncomputable def isD (T : String) (M : Mh) (d : Dv) : Option Bool := match d with
  | .int _ => some (T == "int") | .bl _ => some (T == "int" || T == "bool") | .ao => some false | .str _ => some (T == "str") | .tup _ => some (T == "tuple") | .lst _ => some (T == "list") | .ptr a => (match M a with | some (.lst _) => some (T == "list") | some .c6 => some (T == "list") | some _ => some false | none => none) | _ => none
noncomputable def pX : List String := ["int", "bool", "str", "tuple", "list"]
noncomputable def zIsInst : qV := fun ds M Q => match ds with | [d, .raw (.ty T)] => T ∈ pX ∧ (match isD T M d with | some b => Q (.bl b) M | none => False) | _ => False
theorem Hd {K : PySem.W.Frag} {M : Mh} {H : Hp} {x : V} {d : Dv} {T : String} {b : Bool} (m : Mz β M H) (hT : T ∈ pX) (r : Rz β M H x d) (h : isD T M d = some b) : ∃ t, fy K H x t ∧ PySem.W.kitOne K t (.type T) = some b := by
  have nh : T = "int" ∨ T = "bool" ∨ T = "str" ∨ T = "tuple" ∨ T = "list" := by simpa [pX] using hT
  cases r with
  | int i => cases h; exact ⟨_, .int i, by rcases nh with rfl | rfl | rfl | rfl | rfl <;> rfl⟩
  | bl i => cases h; exact ⟨_, .bl i, by rcases nh with rfl | rfl | rfl | rfl | rfl <;> rfl⟩
  | ao => cases h; exact ⟨_, .ao, by rcases nh with rfl | rfl | rfl | rfl | rfl <;> rfl⟩
  | str i => cases h; exact ⟨_, .str i, by rcases nh with rfl | rfl | rfl | rfl | rfl <;> rfl⟩
  | tup f e hl q => cases h; exact ⟨_, .tup e, by rcases nh with rfl | rfl | rfl | rfl | rfl <;> rfl⟩
  | lst f e hl q => cases h; exact ⟨_, .lst e, by rcases nh with rfl | rfl | rfl | rfl | rfl <;> rfl⟩
  | ptr hs =>
    rename_i a
    cases q2 : M a with
    | none => rw [q2] at hs; cases hs
    | some o =>
      simp only [isD, q2] at h
      have q := m.obj a o q2
      cases o with
      | lst ds => obtain ⟨vs, e, _⟩ := q; cases h; exact ⟨_, .lst e, by rcases nh with rfl | rfl | rfl | rfl | rfl <;> rfl⟩
      | c6 => obtain ⟨_, _, e, _⟩ := q; cases h; exact ⟨_, .lst e, by rcases nh with rfl | rfl | rfl | rfl | rfl <;> rfl⟩
      | dk ks ds => obtain ⟨vs, e, _⟩ := q; cases h; exact ⟨_, .dK e, by rcases nh with rfl | rfl | rfl | rfl | rfl <;> rfl⟩
      | dt ks ds => obtain ⟨vs, e, _⟩ := q; cases h; exact ⟨_, .dT e, by rcases nh with rfl | rfl | rfl | rfl | rfl <;> rfl⟩
  | set f e => cases h
  | exc f e => cases h
  | bq f e => cases h
  | cm f e => cases h
  | cn e => cases h
  | raw v => cases h
  | dk f e _ _ _ => cases h
  | dt f e _ _ _ => cases h
  | bI _ _ _ _ _ _ => cases h
theorem gM (hK : X.K = K) : fv Γ X (.builtin "isinstance") zIsInst := ⟨_, sH hK, fun β xs ds M H Q Q' _ _ _ m rs z q => by
  unfold zIsInst at z
  split at z
  · obtain ⟨x, y, rfl, r, r'⟩ := mH rs
    rw [zh r']
    obtain ⟨hT, z⟩ := z
    split at z
    · rename_i b hb
      obtain ⟨t, ht, hk⟩ := Hd (K := K) m hT r hb
      exact ⟨_, _, t, b, rfl, ht, hk, q _ _ _ _ (.refl m) (.bl _) z⟩
    · exact z.elim
  · exact z.elim⟩
noncomputable abbrev vz := Dv → List Dv → Mh → ZK → Prop
noncomputable def He (Γ : Gz) (X : Cx) (T id : String) (K : PySem.W.Frag) (z : vz) : Prop := ∃ r, FR X id r ∧ ∀ (β : Bz) x xs d ds M H Q Q', β.P = Γ.P → β.w = Γ.w → β.K = Γ.K → Mz β M H → Rz β M H x d → aD β M H xs ds → z d ds M Q' → (∀ d' M' v H', Ex β M H M' H' → Rz β M' H' v d' → Q' d' M' → Q v H') → r x xs H Q
noncomputable def tyZ (T : String) (M : Mh) : Dv → Prop
  | .ptr a => match M a with | some (.lst _) => T = "list" | some .c6 => T = "list" | some (.dk _ _) => T = "dict" | some (.dt _ _) => T = "dict" | none => False
  | .lst _ => T = "list"
  | .tup _ => T = "tuple"
  | .str _ => T = "str"
  | _ => False
theorem Hf {M : Mh} {H : Hp} {x : V} {d : Dv} {T : String} (m : Mz β M H) (r : Rz β M H x d) (h : tyZ T M d) : F0 K T x H := by
  cases r with
  | str => exact h
  | lst f e _ _ => exact .inl ⟨h, _, bH.of e⟩
  | tup f e _ _ => exact .inr (.inl ⟨h, .inr ⟨_, e⟩⟩)
  | ptr hs =>
    rename_i a
    cases q2 : M a with
    | none => rw [q2] at hs; cases hs
    | some o =>
      simp only [tyZ, q2] at h
      have q := m.obj a o q2
      cases o with
      | lst ds => obtain ⟨vs, e, _⟩ := q; exact .inl ⟨h, _, bH.of e⟩
      | c6 => obtain ⟨_, _, e, _⟩ := q; exact .inl ⟨h, _, bH.of e⟩
      | dk ks ds => obtain ⟨vs, e, _⟩ := q; exact .inr (.inr (.inl ⟨h, .inl ⟨_, e⟩⟩))
      | dt ks ds => obtain ⟨vs, e, _⟩ := q; exact .inr (.inr (.inl ⟨h, .inr ⟨_, e⟩⟩))
  | _ => exact h.elim
noncomputable def zBM (T : String) (z : vz) (po : aJ) (pa : eB) : aJ := fun ρ M Q => po ρ M fun d M1 => tyZ T M1 d ∧ pa ρ M1 fun ds M2 => z d ds M2 Q
section
variable {o e : Expr} {es : List Expr} {po : aJ} {pa : eB} {name : Str} {apos aW : Pos} {T id : String} {z : vz}
theorem oW (h : X.K = K) (pat : PlainAttrs T) (slot : Slot T name id) (yp : typeOf (.builtin id) = pure (.type "method_descriptor")) (hm : He Γ X T id K z) (ho : QE Γ X o po) (ha : QA Γ X (e :: es) pa) (ow : attributeBase o name X.env (eval o X.env) = eval o X.env := by rfl)
    (so : ((backTo aW (starEach (e :: es) X.env)).all (fun x => !x.1) && (backToKw aW (keywordEach [] X.env)).all (fun x => x.1.isSome)
      && decide ((e :: es).length + ([] : List Keyword).length + (if ([] : List Keyword).isEmpty then 0 else 1) < 30)) = true := by rfl)
    (hline : (apos.endLine == aW.line) = true := by rfl) (hs : starEach (e :: es) X.env = (false, eval e X.env) :: starEach es X.env := by rfl) (kY : (backTo aW (starEach es X.env)).any (·.1) = false := by rfl) :
    QE Γ X (.Call (.Attribute o name apos) (e :: es) [] aW) (zBM T z po pa) := by
  obtain ⟨r, h1, h2⟩ := hm
  exact (Gj h pat slot yp h1 ho ha ow so hline hs kY).imp fun σ H Q ⟨β, ρ, M, Q', zr, h, q⟩ => ⟨β, ρ, M, _, zr, h, fun d M1 v H1 x1 r1 ⟨ht, h1⟩ => ⟨Hf x1.mz r1 ht, β, ρ, M1, _, zr.step x1, h1, fun ds M2 vs H2 x2 r2 h3 =>
    h2 β v vs d ds M2 H2 _ _ zr.eP zr.ew zr.eK x2.mz (r1.ex x2) r2 h3 fun d' M' v' H' x3 r3 q3 => q _ _ _ _ (x1.trans (x2.trans x3)) r3 q3⟩⟩
end
noncomputable def zAppend : vz := fun d ds M Q => match d, ds with | .ptr a, [y] => (match M a with | some (.lst xs) => xs.length < sizeLine ∧ Q .ao (ax M a (.lst (xs ++ [y]))) | _ => False) | _, _ => False
theorem nR : He Γ X "list" "list.append" K zAppend := ⟨_, kZ, fun β x xs d ds M H Q Q' _ _ _ m r rs z q => by
  unfold zAppend at z
  split at z
  · rename_i a y
    split at z
    · rename_i es he
      obtain ⟨e, hs⟩ := cF r
      obtain ⟨v, e2, rv⟩ := ee rs
      subst e e2
      obtain ⟨vs, hv, fU⟩ := m.obj a _ he
      refine ⟨a, vs, v, rfl, rfl, hv, by rw [fU.len]; exact z.1, ?_⟩
      exact q _ _ _ _ (Ex.own m (.inl hs) (fU.snoc rv)) .ao z.2
    · exact z.elim
  · exact z.elim⟩
noncomputable def zPop : vz := fun d ds M Q => match d, ds with | .ptr a, [] => (match M a with | some (.lst xs) => (match xs[xs.length - 1]? with | some y => Q y (ax M a (.lst xs.dropLast)) | none => False) | _ => False) | _, _ => False
noncomputable def zPopAt : vz := fun d ds M Q => match d, ds with | .ptr a, [.int i] => (match M a with | some (.lst xs) => -(2 ^ 63) ≤ i ∧ i < 2 ^ 63 ∧ (match seqIndex? i xs.length with | some k => (match xs[k]? with | some y => Q y (ax M a (.lst (xs.eraseIdx k))) | none => False) | none => False) | _ => False) | _, _ => False
theorem aD.eraseIdx {M : Mh} {H : Hp} {vs : List V} {ds : List Dv} (h : aD β M H vs ds) (k : Nat) : aD β M H (vs.eraseIdx k) (ds.eraseIdx k) := by
  rw [List.eraseIdx_eq_take_drop_succ, List.eraseIdx_eq_take_drop_succ]
  exact (h.take _).append (h.drop _)
theorem vA : He Γ X "list" "list.pop" K zPopAt := ⟨_, A7, fun β x xs d ds M H Q Q' _ _ _ m r rs z q => by
  unfold zPopAt at z
  split at z
  · rename_i a i
    split at z
    · rename_i es he
      obtain ⟨b1, b2, z⟩ := z
      split at z
      · rename_i k hk
        split at z
        · rename_i y hy
          obtain ⟨e, hs⟩ := cF r
          obtain ⟨v0, e2, NK⟩ := ee rs
          subst e e2
          rw [aK NK]
          obtain ⟨vs, hv, fU⟩ := m.obj a _ he
          obtain ⟨v, NM, rv⟩ := fU.get hy
          refine ⟨a, vs, i, k, v, rfl, rfl, hv, b1, b2, by rw [fU.len]; exact hk, NM, ?_⟩
          have x2 := Ex.own m (.inl hs) (fU.eraseIdx k)
          exact q _ _ _ _ x2 (rv.ex x2) z
        · exact z.elim
      · exact z.elim
    · exact z.elim
  · exact z.elim⟩
noncomputable def zSetI : Dv → Dv → Dv → Mh → (Mh → Prop) → Prop := fun o i v M N => match o, i with | .ptr a, .int k => (match M a with | some (.lst xs) => (match g7 xs.length k with | some j => N (ax M a (.lst (xs.set j v))) | none => False) | _ => False) | _, _ => False
noncomputable def zgSub (po pi : aJ) : cG := fun d ρ M N => po ρ M fun o M1 => pi ρ M1 fun i M2 => zSetI o i d M2 fun M3 => N ρ M3
theorem j9 {o i : Expr} {po pi : aJ} {pos : Pos} (ho : QE Γ X o po) (hi : QE Γ X i pi)
    (ha : ∀ v, assign (.Subscript o i pos) X.env v = (do
      let ov ← holding [v] (eval o X.env)
      let iv ← holding [v, ov] (eval i X.env)
      standAt pos
      holding [v, ov, iv] (setItem ov iv v)
      release [v, ov, iv] []) := by intro _; rfl) : QG Γ X (.Subscript o i pos) (zgSub po pi) :=
  (Fn ho hi set_list ha).imp fun v σ H N ⟨β, d, ρ, M, N', zr, r, h, q⟩ => ⟨β, ρ, M, _, zr, h, fun od M1 ov H1 x1 r1 h1 => ⟨β, ρ, M1, _, zr.step x1, h1, fun PB M2 iv H2 x2 r2 h2 => by
    unfold zSetI at h2
    split at h2
    · rename_i a k
      split at h2
      · rename_i es he
        split at h2
        · rename_i j hj
          obtain ⟨e, hs⟩ := cF (r1.ex x2)
          subst e
          rw [aK r2]
          obtain ⟨vs, hv, fU⟩ := x2.mz.obj a _ he
          have x3 := Ex.own x2.mz (.inl hs) (fU.set j ((r.ex x1).ex x2))
          exact ⟨a, vs, k, j, rfl, rfl, hv, by rw [fU.len]; exact hj, q _ _ _ _ (x1.trans (x2.trans x3)) (((zr.step x1).step x2).step x3) h2⟩
        · exact h2.elim
      · exact h2.elim
    · exact h2.elim⟩⟩
end
end L2
namespace L2
open PySem PySem.Spec PySem.W PyProof.Rows
noncomputable abbrev ZX := Addr → Mh → Prop
noncomputable abbrev cI := List Dv → Mh → ZK → ZX → Prop
noncomputable def bz (P : Program) (w : World) (K : PySem.W.Frag) (tb : cP) (S : cI) : Sp := fun vs H Q E => ∃ (β : Bz) (ds : List Dv) (M : Mh) (Q' : ZK) (E' : ZX), β.P = P ∧ β.w = w ∧ β.K = K ∧ β.tb = tb ∧ Mz β M H ∧ aD β M H vs ds ∧ S ds M Q' E' ∧
  (∀ d M' v H', Ex β M H M' H' → Rz β M' H' v d → Q' d M' → Q v H') ∧ ∀ C M' H', Ex β M H M' H' → E' C M' → E (.ref C) none H'
theorem Rz.mK {β : Bz} {M0 M : Mh} {H : Hp} (dom : ∀ a, (M0 a).isSome = true → (M a).isSome = true) {v : V} {d : Dv} (h : Rz β M H v d) : Pin M0 d → Rz β M0 H v d := by
  have ne : ∀ a, Fz β M a → Fz β M0 a := fun a m => ⟨(by
    cases e : M0 a with
    | none => rfl
    | some o => have := dom a (by rw [e]; rfl); rw [m.1] at this; cases this), m.2⟩
  induction h with
  | int i => exact fun _ => .int i
  | bl b => exact fun _ => .bl b
  | ao => exact fun _ => .ao
  | str z => exact fun _ => .str z
  | tup m e hl h ih =>
    intro p
    cases p with
    | tup p => exact .tup (ne _ m) e hl fun i v d a b => ih i v d a b (p d (List.mem_of_getElem? b))
  | lst m e hl h ih =>
    intro p
    cases p with
    | lst p => exact .lst (ne _ m) e hl fun i v d a b => ih i v d a b (p d (List.mem_of_getElem? b))
  | set m e => exact fun _ => .set (ne _ m) e
  | ptr m => intro p; cases p with | ptr p => exact .ptr p
  | exc m e => exact fun _ => .exc (ne _ m) e
  | bq m e => exact fun _ => .bq (ne _ m) e
  | cm m e => exact fun _ => .cm (ne _ m) e
  | cn e => exact fun _ => .cn e
  | dk m e hk hl h ih =>
    intro p
    cases p with
    | dk p => exact .dk (ne _ m) e hk hl fun i v d a b => ih i v d a b (p d (List.mem_of_getElem? b))
  | dt m e hk hl h ih =>
    intro p
    cases p with
    | dt p => exact .dt (ne _ m) e hk hl fun i v d a b => ih i v d a b (p d (List.mem_of_getElem? b))
  | bI m e m2 e2 hl h ih =>
    intro p
    cases p with
    | bI p => exact .bI (ne _ m) e (ne _ m2) e2 hl fun i v d a b => ih i v d a b (p d (List.mem_of_getElem? b))
  | raw v => exact fun _ => .raw v
inductive kM (M0 M : Mh) : Dv → Dv → Prop where
  | pin {d : Dv} (h : Pin M0 d) : kM M0 M d d
  | ptr {a : Addr} {ds fR : List Dv} (h0 : M0 a = none) (h : M a = some (.lst ds)) (hl : ds.length = fR.length) (r : ∀ (i : Nat) (d d' : Dv), ds[i]? = some d → fR[i]? = some d' → kM M0 M d d') : kM M0 M (.ptr a) (.lst fR)
  | tup {ds fR : List Dv} (hl : ds.length = fR.length) (r : ∀ (i : Nat) (d d' : Dv), ds[i]? = some d → fR[i]? = some d' → kM M0 M d d') : kM M0 M (.tup ds) (.tup fR)
  | dk {a : Addr} {ks : List Key} {ds fR : List Dv} (h0 : M0 a = none) (h : M a = some (.dk ks ds)) (hl : ds.length = fR.length) (r : ∀ (i : Nat) (d d' : Dv), ds[i]? = some d → fR[i]? = some d' → kM M0 M d d') : kM M0 M (.ptr a) (.dk ks fR)
  | dt {a : Addr} {ks : List (List Key)} {ds fR : List Dv} (h0 : M0 a = none) (h : M a = some (.dt ks ds)) (hl : ds.length = fR.length) (r : ∀ (i : Nat) (d d' : Dv), ds[i]? = some d → fR[i]? = some d' → kM M0 M d d') : kM M0 M (.ptr a) (.dt ks fR)
theorem kM.rz {β : Bz} {M0 M : Mh} {H : Hp} (mz : Mz β M H) (dom : ∀ a, (M0 a).isSome = true → (M a).isSome = true) {d d' : Dv} (h : kM M0 M d d') : ∀ {v : V}, Rz β M H v d → Rz β M0 H v d' := by
  induction h with
  | pin h => exact fun r => r.mK dom h
  | ptr h0 h hl r ih =>
    intro v r
    obtain ⟨rfl, _⟩ := cF r
    obtain ⟨vs, hv, rs⟩ := mz.obj _ _ h
    refine .lst ⟨h0, mz.apart _ _ h⟩ hv (rs.len.trans hl) fun i v d a b => ?_
    obtain ⟨d0, q, rd⟩ := rs.get' a
    exact ih i d0 d q b rd
  | dk h0 h hl r ih =>
    intro v r
    obtain ⟨rfl, _⟩ := cF r
    obtain ⟨vs, hv, hk, rs⟩ := mz.obj _ _ h
    refine .dk ⟨h0, mz.apart _ _ h⟩ (.inl hv) hk (rs.len.trans hl) fun i v d a b => ?_
    obtain ⟨d0, q, rd⟩ := rs.get' a
    exact ih i d0 d q b rd
  | dt h0 h hl r ih =>
    intro v r
    obtain ⟨rfl, _⟩ := cF r
    obtain ⟨vs, hv, hk, rs⟩ := mz.obj _ _ h
    refine .dt ⟨h0, mz.apart _ _ h⟩ (.inl hv) hk (rs.len.trans hl) fun i v d a b => ?_
    obtain ⟨d0, q, rd⟩ := rs.get' a
    exact ih i d0 d q b rd
  | tup hl r ih =>
    intro v r
    obtain ⟨a, vs, rfl, f, hv, rs⟩ := dm r
    refine .tup ⟨?_, f.2⟩ hv (rs.len.trans hl) fun i v d a b => ?_
    · cases e : M0 a with
      | none => rfl
      | some o => have := dom a (by rw [e]; rfl); rw [f.1] at this; cases this
    · obtain ⟨d0, q, rd⟩ := rs.get' a
      exact ih i d0 d q b rd
noncomputable def jQ (M0 : Mh) (Q : ZK) : ZK := fun d M => Q d M ∨ ((∀ a o, M0 a = some o → M a = some o) ∧ ∃ d', kM M0 M d d' ∧ Q d' M0)
theorem mL {β : Bz} {M0 M : Mh} {H0 H : Hp} {Q' : ZK} {Q : VK} (m0 : Mz β M0 H0) (q : ∀ d M' v H', Ex β M0 H0 M' H' → Rz β M' H' v d → Q' d M' → Q v H') {d : Dv} {v : V} (x : Ex β M0 H0 M H) (r : Rz β M H v d) (h : jQ M0 Q' d M) : Q v H := by
  rcases h with h | ⟨same, d', rv, h⟩
  · exact q _ _ _ _ x r h
  · refine q d' M0 v H ⟨⟨x.keep, fun _ h => h, fun _ _ h _ => h⟩, fun a o e => ?_, x.mz.tabs, x.mz.hids, m0.apart, x.mz.lams⟩ (rv.rz x.mz x.dom r) h
    have z := x.mz.obj a o (same a o e)
    have z0 := m0.obj a o e
    cases o with
    | lst ds =>
      obtain ⟨vs, z, rs⟩ := z
      obtain ⟨KH, _, zy⟩ := z0
      refine ⟨vs, z, rs.len, fun i v d a b => (rs.at' i v d a b).mK x.dom ?_⟩
      obtain ⟨v0, _, r0⟩ := zy.get b
      exact r0.pin
    | dk ks ds =>
      obtain ⟨vs, z, hk, rs⟩ := z
      obtain ⟨KH, _, _, zy⟩ := z0
      refine ⟨vs, z, hk, rs.len, fun i v d a b => (rs.at' i v d a b).mK x.dom ?_⟩
      obtain ⟨v0, _, r0⟩ := zy.get b
      exact r0.pin
    | dt ks ds =>
      obtain ⟨vs, z, hk, rs⟩ := z
      obtain ⟨KH, _, _, zy⟩ := z0
      refine ⟨vs, z, hk, rs.len, fun i v d a b => (rs.at' i v d a b).mK x.dom ?_⟩
      obtain ⟨v0, _, r0⟩ := zy.get b
      exact r0.pin
    | c6 => exact z
noncomputable def zstart (N : List Str) (ds : List Dv) : aA := ds.map some ++ List.replicate (N.length - ds.length) none
theorem nS {Γ : Gz} {N : List Str} {vs : List V} {ds : List Dv} (m : Mz Γ.toBz Γ.M0 Γ.H0) (rs : aD Γ.toBz Γ.M0 Γ.H0 vs ds) : Zr Γ Γ.toBz Γ.M0 (zstart N ds) (start N vs) Γ.H0 := ⟨rfl, rfl, rfl, rfl, fun _ h => h, m.wf, .refl, m, by simp [zstart, start, rs.len], fun i d e => by
  unfold zstart at e
  unfold start
  rw [List.getElem?_append] at e ⊢
  rw [List.length_map] at e ⊢
  rw [rs.len]
  split at e
  · rename_i hi
    rw [if_pos hi]
    rw [List.getElem?_map, Option.map_eq_some_iff] at e
    obtain ⟨d2, e, e2⟩ := e
    cases e2
    obtain ⟨v, hv, r⟩ := rs.get e
    exact ⟨v, by rw [List.getElem?_map, hv]; rfl, r⟩
  · rw [List.getElem?_replicate] at e
    split at e <;> cases e⟩
noncomputable def zEndsOf (M0 : Mh) (Q : ZK) : gq := { nx := fun _ M => jQ M0 Q .ao M, rt := jQ M0 Q }
noncomputable def XR (Γ : Gz) (E' : ZX) (E : XK) : Prop := ∀ C M' H', Ex Γ.toBz Γ.M0 Γ.H0 M' H' → E' C M' → E (.ref C) none H'
section
variable {P : Program} {w : World} {K : PySem.W.Frag} {mg : Str → Option Value} {base : Heap} {tb : cP} {x : Str} {st : Stmt} {f : Addr} {fd : FuncData} {N ps : List Str} {k : Nat} {S : cI}
theorem pY (len : ∀ ds M Q E, S ds M Q E → ds.length = ps.length) : ∀ vs H Q E, bz P w K tb S vs H Q E → vs.length = ps.length := fun vs H Q E hS => by
  obtain ⟨β, ds, M, Q', E', _, _, _, _, m, rs, s, _⟩ := hS
  exact rs.len.trans (len _ _ _ _ s)
theorem eQ (D : Df K mg x st ps f fd) (sc : aQ N ps (ai st)) (len : ∀ ds M Q E, S ds M Q E → ds.length = ps.length)
    (body : ∀ (A : Around) (outer : List Env) (s : Shared) (E : XK) (Γ : Gz) (ds : List Dv) (Q' : ZK) (E' : ZX), P = Γ.P → w = Γ.w → K = Γ.K → tb = Γ.tb → bL k (A.deeper (envOfC x (ai st) s.heap.objs.size f fd.code)) → S ds Γ.M0 Q' E' →
      ∃ p, kJ Γ (fg bt P w K mg base N x (ai st) f fd.code A outer s Γ.H0 E).kR (bB st) p ∧ p (zEndsOf Γ.M0 Q') (zstart N ds) Γ.M0) : FnOk P w K mg base bt (k + 1) f fd ps (bz P w K tb S) := by
  refine D.fn.M9 sc (pY len) fun A outer s H vs Q E hr h => ?_
  obtain ⟨β, ds, M, Q', E', eP, ew, eK, et, m, rs, hS, q, _⟩ := h
  obtain ⟨p, hp, hq⟩ := body A outer s E ⟨β, M, H⟩ ds Q' E' eP.symm ew.symm eK.symm et.symm hr hS
  refine ⟨_, hp, β, zstart N ds, M, zEndsOf M Q', nS (Γ := ⟨β, M, H⟩) m rs, hq, ?_⟩
  have fin : ∀ d M' v H', Ex β M H M' H' → Rz β M' H' v d → jQ M Q' d M' → Q v H' := fun d M' v H' x r h => mL m q x r h
  exact ⟨fun bJ M' aG H' x zr h => fin _ _ _ _ ⟨zr.ent, x.mz⟩ .ao h, fun d M' v H' x e r h => fin _ _ _ _ ⟨e, x.mz⟩ r h, fun _ _ _ _ _ _ h => h, fun _ _ _ _ _ _ h => h⟩
end
section
variable {P : Program} {w : World} {K : PySem.W.Frag} {mg : Str → Option Value} {base : Heap} {tb : cP} {x : Str} {st : Stmt} {f : Addr} {fd : FuncData} {N ps : List Str} {k : Nat} {S : cI}
theorem wW (D : Df K mg x st ps f fd) (sc : aQ N ps (ai st)) (len : ∀ ds M Q E, S ds M Q E → ds.length = ps.length)
    (body : ∀ (A : Around) (outer : List Env) (s : Shared) (E : XK) (Γ : Gz) (ds : List Dv) (Q' : ZK) (E' : ZX), P = Γ.P → w = Γ.w → K = Γ.K → tb = Γ.tb → XR Γ E' E → bL k (A.deeper (envOfC x (ai st) s.heap.objs.size f fd.code)) → S ds Γ.M0 Q' E' →
      ∃ p, kJ Γ (fg (gG P w) P w K mg base N x (ai st) f fd.code A outer s Γ.H0 E) (bB st) p ∧ p (zEndsOf Γ.M0 Q') (zstart N ds) Γ.M0) : FnOk P w K mg base (gG P w) (k + 1) f fd ps (bz P w K tb S) := by
  refine D.fn.yF sc (pY len) fun A outer s H vs Q E hr h => ?_
  obtain ⟨β, ds, M, Q', E', eP, ew, eK, et, m, rs, hS, q, qx⟩ := h
  obtain ⟨p, hp, hq⟩ := body A outer s E ⟨β, M, H⟩ ds Q' E' eP.symm ew.symm eK.symm et.symm qx hr hS
  refine ⟨_, hp, β, zstart N ds, M, zEndsOf M Q', nS (Γ := ⟨β, M, H⟩) m rs, hq, ?_⟩
  have fin : ∀ d M' v H', Ex β M H M' H' → Rz β M' H' v d → jQ M Q' d M' → Q v H' := fun d M' v H' x r h => mL m q x r h
  exact ⟨fun bJ M' aG H' x zr h => fin _ _ _ _ ⟨zr.ent, x.mz⟩ .ao h, fun d M' v H' x e r h => fin _ _ _ _ ⟨e, x.mz⟩ r h, fun _ _ _ _ _ _ h => h, fun _ _ _ _ _ _ h => h⟩
end
section
variable {X : Cx} {Γ : Gz} {β : Bz} {K : PySem.W.Frag}
noncomputable def zCall (S : cI) (E' : ZX) (za : eB) : aJ := fun ρ M Q => za ρ M fun ds M1 => S ds M1 Q E'
theorem XR.none : XR Γ (fun _ _ => False) (fun _ _ _ => False) := fun _ _ _ _ h => h
theorem oX {M M1 M2 : Mh} {H H1 H2 : Hp} (ent : Ey M H M1 H1) (sub : ∀ a, a ∈ Γ.hid → a ∈ β.hid) (eP : β.P = Γ.P) (ew : β.w = Γ.w) (eK : β.K = Γ.K) (et : β.tb = Γ.tb) (x : Ex β M1 H1 M2 H2) : Ex Γ.toBz M H M2 H2 := ⟨ent.trans x.toEy, x.mz.sub eP.symm ew.symm eK.symm et.symm sub⟩
section
variable {CX : gd} {k : Nat} {f : Addr} {fd : FuncData} {ps : List Str} {S : cI} {E : XK} {E' : ZX} {x : Str} {p pos : Pos} {e : Expr} {es : List Expr} {za : eB} {P : Program} {w : World} {tb : cP}
theorem Hg (hP : P = Γ.P) (hw : w = Γ.w) (hK : K = Γ.K) (ht : tb = Γ.tb) (hE : XR Γ E' E) {σ : St} {H : Hp} {Q : VK} (h : lE Γ (zCall S E' za) σ H Q) : CB (bz P w K tb S) [] E (lA Γ za) σ H Q := by
  subst hP hw hK ht
  obtain ⟨β, ρ, M, Q', zr, h, q⟩ := h
  refine ⟨β, ρ, M, _, zr, h, fun ds M1 vs H1 x1 r1 h1 => ?_⟩
  show bz Γ.P Γ.w Γ.K Γ.tb S (vs ++ []) H1 Q E
  rw [List.append_nil]
  exact ⟨β, ds, M1, Q', E', zr.eP, zr.ew, zr.eK, zr.et, x1.mz, r1, h1, fun d M2 v H2 x2 r2 h2 => q _ _ _ _ (x1.trans x2) r2 h2, fun C M2 H2 x2 h2 => hE C M2 H2 (oX zr.ent zr.sub zr.eP zr.ew zr.eK zr.et (x1.trans x2)) h2⟩
theorem aL (F : FnOk X.prog X.w X.K X.mg X.base CX k f fd ps (bz P w K tb S)) (hr : bL k X.A) (hg : Gl X x) (hm : X.mg x = some (.ref f)) (hk : PySem.W.keepIn X.K (.ref f) = true) (hb : Binds X.K fd ps []) (hx : Passes CX X E) (hP : P = Γ.P) (hw : w = Γ.w) (hK : K = Γ.K) (ht : tb = Γ.tb) (hE : XR Γ E' E)
    (ha : QA Γ X (e :: es) za) (eE : (x == ("__debug__" : Str)) = false := by decide) (he : starEach (e :: es) X.env = (false, eval e X.env) :: starEach es X.env := by rfl) (bV : (backTo pos (starEach es X.env)).any (·.1) = false := by rfl) :
    QE Γ X (.Call (.Name x p) (e :: es) [] pos) (zCall S E' za) := (DI F hr hg hm hk hb .nil hx ha eE he bV).imp fun σ H Q h => Hg hP hw hK ht hE h
end
noncomputable def zRaise (C : Addr) (E' : ZX) (za : eB) : cy := fun _ ρ M => za ρ M fun ds M1 => ds.length ≤ sizeLine ∧ E' C M1
theorem tH {x : Str} {C : Addr} {jP : Expr} {rest : List Expr} {za : eB} {qR : List Value} {B newId sY : String} {E : XK} {E' : ZX} {np aW pos : Pos} (O : PySem.W.excIn X.K C qR newId = true) (FB : ExcBaseFacts B newId sY qR) (hc : X.calm = true) (hR : Raises X E) (hE : XR Γ E' E) (hg : Gl X x) (hm : X.mg x = some (.ref C)) (ha : QA Γ X (jP :: rest) za)
    (eE : (x == ("__debug__" : Str)) = false := by decide) (he : starEach (jP :: rest) X.env = (false, eval jP X.env) :: starEach rest X.env := by rfl) (bV : (backTo aW (starEach rest X.env)).any (·.1) = false := by rfl) :
    QS Γ X (.Raise (some (.Call (.Name x np) (jP :: rest) [] aW)) none pos) (zRaise C E' za) := (Bt O FB hc hR hg hm ha eE he bV).imp fun D σ H ⟨β, ρ, M, D', zr, h, r⟩ => ⟨β, ρ, M, _, zr, h, fun ds M1 vs H1 x1 r1 h1 =>
  ⟨by rw [r1.len]; exact h1.1, hE C M1 H1 (oX zr.ent zr.sub zr.eP zr.ew zr.eK zr.et x1) h1.2⟩⟩
section
variable {tg elt iter : Expr} {ifs : List Expr} {scope : Scope} {pos : Pos} {N' : List Str} {tn : Nat} {idx : List Nat} {zi : eJ} {g : cG} {tt : cQ} {te : aJ} {c P : Addr} {k : Nat}
theorem fo (hc : X.calm = true) (B : aF X.N X.env.scope scope N' tn idx) (hi : QI Γ X tg iter zi)
    (hg : Blk X N' scope fun Y => QG Γ Y tg g) (ht : Blk X N' scope fun Y => qX Γ Y ifs tt) (he : Blk X N' scope fun Y => QE Γ Y elt te)
    (hs : ∀ x, foldedSetIterable iter X.env x = pure x := by intro _; rfl) : QE Γ X (.ListComp elt [⟨tg, iter, ifs, 0⟩] scope pos) (zComp tn idx zi g tt te) := (mX hc B hi hg ht he hs).imp fun σ H Q h => G9 h
theorem je (hc : X.calm = true) (B : aF X.N X.env.scope scope N' tn idx) (hi : QI Γ X tg iter zi)
    (hg : Blk X N' scope fun Y => QG Γ Y tg g) (ht : Blk X N' scope fun Y => qX Γ Y ifs tt) (he : Blk X N' scope fun Y => QE Γ Y elt te)
    (hs : ∀ x, foldedSetIterable iter X.env x = pure x := by intro _; rfl) : QE Γ X (.ListComp elt [⟨tg, iter, ifs, 0⟩] scope pos) (zCompP tn idx zi g tt te) := (mX hc B hi hg ht he hs).imp fun σ H Q h => pU h
theorem uP {i : Nat} {y : Str} {py iY : Pos} (hN : X.N.Nodup) (d6 : X.N[i]? = some y) (hy : X.env.scope.names.lookup y = some .local) (hc : X.calm = true) (B : aF X.N X.env.scope scope N' tn idx) (hi : QI Γ X tg iter zi)
    (hg : Blk X N' scope fun Y => QG Γ Y tg g) (ht : Blk X N' scope fun Y => qX Γ Y ifs tt) (he : Blk X N' scope fun Y => QE Γ Y elt te)
    (sy : swapsWith (.ListComp elt [⟨tg, iter, ifs, 0⟩] scope pos) (some (.Name y py)) iY.line X.env = pure true := by rfl)
    (hs : ∀ x, foldedSetIterable iter X.env x = pure x := by intro _; rfl) : QS Γ X (.Assign [.Name y py] (.ListComp elt [⟨tg, iter, ifs, 0⟩] scope pos) iY) (zAsg (zCompP tn idx zi g tt te) (zgName i)) := (wm hN d6 hy hc B hi hg ht he sy hs).imp fun D σ H h => wU (fun _ _ _ h => pU h) h
theorem tI {p sE : Pos} (hP : P ∈ Γ.tb) (hr : bL (k + 1) X.A) (hc : X.calm = true) (B : aF X.N X.env.scope scope N' tn idx)
    (h0 : scope.names.lookup (".0" : Str) = some .local) (qG : scope.isCoroutine = false) (fu : X.env.code = .ref c) (hd : PySem.W.CodeHd X.base c P) (eA : ∃ bm ob, BMod X.base mainGlobals X.mg bm ob)
    (vd : Gl X "all") (hm : X.mg "all" = none) (hi : QI Γ X tg iter zi) (hg : nF X N' scope k fun Y => QG Γ Y tg g) (ht : nF X N' scope k fun Y => qX Γ Y ifs tt) (he : nF X N' scope k fun Y => QE Γ Y elt te)
    (hs : ∀ x, genFold iter X.env x = pure x := by intro _; rfl) : QE Γ X (.Call (.Name "all" p) [dS elt tg iter ifs scope sE] [] pos) (zAll tn idx zi g tt te) := (Gb hr hc B h0 qG fu hd eA vd hm hi hg ht he hs).imp fun σ H Q h => Jz hP h
end
end
section
variable {X : Cx} {Γ : Gz} {β : Bz} {K : PySem.W.Frag}
section
variable {tg elt iter : Expr} {ifs : List Expr} {scope : Scope} {pos : Pos} {N' : List Str} {tn : Nat} {idx : List Nat} {zi : eJ} {g : cG} {tt : cQ} {te : aJ} {c P : Addr} {k : Nat}
noncomputable def kn (g : cG) (tt : cQ) (te : aJ) : List Dv → aA → Mh → (List Int → Mh → Prop) → List Int → Prop
  | [], _, M, Q, acc => Q acc M
  | d :: ds, τ, M, Q, acc => g d τ M fun aC M2 => tt aC M2 fun b M3 => if b = true then te aC M3 fun y M4 => (match y with | .int k => acc.length + 1 < scanBound ∧ kn g tt te ds aC M4 Q (cE acc k) | _ => False) else kn g tt te ds aC M3 Q acc
noncomputable def zSetC (tn : Nat) (idx : List Nat) (zi : eJ) (g : cG) (tt : cQ) (te : aJ) : aJ := fun ρ M Q => zi ρ M fun ds M1 => kn g tt te ds (zBlock tn idx ρ) M1 (fun ns M2 => Q (.set ns) M2) []
theorem Hh (hP : X.prog = Γ.P) (hw : X.w = Γ.w) {σ : St} {H : Hp} {Q : VK} (h : lE Γ (zSetC tn idx zi g tt te) σ H Q) : yT X tn idx (lI Γ zi) (lG Γ g) (lT Γ tt) (lE Γ te) σ H Q := by
  obtain ⟨β, ρ, M, Q', zr, h, q⟩ := h
  refine ⟨β, ρ, M, _, zr, h, fun ds M1 H1 J x1 it h1 D hD => ?_⟩
  have iz := zr.step x1
  have NN := iz.block tn idx
  have NP : Γ.H0 D = none := iz.ent.gone hD (by
    cases e : Γ.M0 D with
    | none => rfl
    | some u => have := iz.ent.dom D (by rw [e]; rfl); rw [x1.mz.free hD] at this; cases this)
  have NQ := x1.mz.BF hD
  have wt : D ∈ (β.add D).hid := List.mem_cons_self
  refine ⟨fun i m τ H' => m = ds.length - i ∧ i ≤ ds.length ∧ ∃ cj M' acc, Ey M1 H1 M' H' ∧ M' D = none ∧ Zr Γ (β.add D) M' cj τ H' ∧ H' D = some (fA X.prog X.w D acc) ∧ kn g tt te (ds.drop i) cj M' (fun ns M2 => Q' (.set ns) M2) acc,
    ⟨_, rfl, Nat.zero_le _, _, M1, [], Ey.refl.over hD, x1.mz.free hD, NN.enter hD rfl, ay, h1⟩, ?_⟩
  rintro i m τ H' ⟨rfl, hi, cj, M', acc, ey, hm, eL, at', h'⟩
  have qq := it (β.add D) M' H' (.add hD) ey eL.mz i
  by_cases aU : i < ds.length
  · refine .inr ⟨(qq.1 aU).1, fun x j4 y => ?_⟩
    obtain ⟨x2, d, hd, rd⟩ := (qq.1 aU).2 x j4 y
    have e : ds.drop i = d :: ds.drop (i + 1) := by
      rw [List.drop_eq_getElem_cons aU]
      rw [List.getElem?_eq_getElem aU] at hd
      cases hd
      rfl
    rw [e] at h'
    refine ⟨β.add D, d, cj, M', _, eL.step x2, rd, h', fun fE M3 lL H3 x3 z3 h3 => ⟨β.add D, fE, M3, _, z3, h3, fun b M4 H4 x4 h4 => ?_⟩⟩
    have kL := x2.trans (x3.trans x4)
    cases b with
    | false =>
      dsimp only at h4 ⊢
      rw [if_neg Bool.false_ne_true] at h4 ⊢
      exact ⟨ds.length - (i + 1), by omega, rfl, aU, fE, M4, acc, ey.trans kL.toEy, kL.new D _ hm at', z3.step x4, kL.get hm at' rfl, h4⟩
    | true =>
      dsimp only at h4 ⊢
      rw [if_pos rfl] at h4 ⊢
      refine ⟨β.add D, fE, M4, _, z3.step x4, h4, fun yd M5 yv H5 x5 r5 h5 => ?_⟩
      have Hi := kL.trans x5
      cases yd with
      | int k =>
        have h6 : acc.length + 1 < scanBound ∧ kn g tt te (ds.drop (i + 1)) fE M5 (fun ns M2 => Q' (.set ns) M2) (cE acc k) := h5
        have KI := Hi.new D _ hm at'
        exact ⟨k, acc, ds.length - (i + 1), aK r5, Hi.get hm at' rfl, h6.1, by omega, rfl, aU, fE, M5, cE acc k, (ey.trans Hi.toEy).over hD, KI, ((z3.step x4).step x5).over wt rfl KI NQ NP, ay, h6.2⟩
      | _ => exact False.elim h5
  · have e : i = ds.length := by omega
    subst e
    rw [List.drop_length] at h'
    have mz : Mz β M' H' := Mz.sub (β := β.add D) (cx := β) rfl rfl rfl rfl (fun a h => List.mem_cons_of_mem _ h) eL.mz
    refine .inl ⟨qq.2 (Nat.le_refl _), q _ _ _ _ (x1.trans ⟨ey, mz⟩) (.set ⟨hm, (x1.mz.fz hD).2⟩ ?_) h'⟩
    rw [zr.eP, zr.ew, ← hP, ← hw]
    exact at'
theorem wX (hP : X.prog = Γ.P) (hw : X.w = Γ.w) (hc : X.calm = true) (B : aF X.N X.env.scope scope N' tn idx) (hi : QI Γ X tg iter zi)
    (hg : Blk X N' scope fun Y => QG Γ Y tg g) (ht : Blk X N' scope fun Y => qX Γ Y ifs tt) (he : Blk X N' scope fun Y => QE Γ Y elt te)
    (hs : ∀ x, foldedSetIterable iter X.env x = pure x := by intro _; rfl) : QE Γ X (.SetComp elt [⟨tg, iter, ifs, 0⟩] scope pos) (zSetC tn idx zi g tt te) := (wJ hc B hi hg ht he hs).imp fun σ H Q h => Hh hP hw h
end
noncomputable def c9 (xs ys : List Dv) : List Dv := (xs.zip ys).map fun p => .tup [p.1, p.2]
noncomputable def jf (n : Nat) : List Dv := (List.range n).map fun i => .int (i : Nat)
theorem jB {J : It} {vs us : List V} {ds es : List Dv} {M : Mh} {H : Hp} (r : aD β M H vs ds) (r2 : aD β M H us es) (h : ∀ M' H', Ey M H M' H' → wN J (vs.zip us) H') : zk β J (c9 ds es) M H := fun cx M' H' bx x m i => by
  have q := h M' H' x i
  have hl : (c9 ds es).length = (vs.zip us).length := by simp [c9, r.len, r2.len]
  rw [hl]
  refine ⟨fun hi => ⟨(q.1 hi).1, fun v j4 y => ?_⟩, q.2⟩
  obtain ⟨t, p, ht, rfl, hp, rfl⟩ := (q.1 hi).2 v j4 y
  rw [List.getElem?_zip_eq_some] at hp
  obtain ⟨d, hd, rd⟩ := r.get' hp.1
  obtain ⟨e, he, re⟩ := r2.get' hp.2
  have x2 := Ex.lay m ht (.tup [p.1, p.2])
  refine ⟨x2, .tup [d, e], ?_, lz (m.fz ht) ay (.cons (((rd.bx bx).ey x).ex x2) (.cons (((re.bx bx).ey x).ex x2) .nil))⟩
  unfold c9
  rw [List.getElem?_map, Option.map_eq_some_iff]
  exact ⟨(d, e), by rw [List.getElem?_zip_eq_some]; exact ⟨hd, he⟩, rfl⟩
theorem enum_zip (vs : List V) : ((List.range vs.length).map fun i => (V.int (i : Nat), vs.getD i .ao)) = ((List.range vs.length).map fun i => V.int (i : Nat)).zip vs := by
  refine List.ext_getElem? fun i => ?_
  by_cases hi : i < vs.length
  · rw [List.getElem?_map, List.getElem?_range hi]
    symm
    show _ = some (V.int (i : Nat), vs.getD i .ao)
    rw [List.getElem?_zip_eq_some, List.getElem?_map, List.getElem?_range hi, List.getD_eq_getElem?_getD, List.getElem?_eq_getElem hi]
    exact ⟨rfl, rfl⟩
  · rw [List.getElem?_eq_none_iff.mpr (by simp; omega), List.getElem?_eq_none_iff.mpr (by simp; omega)]
theorem pZ {n : Nat} {M : Mh} {H : Hp} : aD β M H ((List.range n).map fun i => V.int (i : Nat)) (jf n) := ⟨by simp [jf], fun i v d a b => by
  unfold jf at b
  rw [List.getElem?_map] at a b
  cases e : (List.range n)[i]? with
  | none => rw [e] at a; cases a
  | some c => rw [e] at a b; cases a; cases b; exact .int _⟩
theorem Sq.KJ {H : Hp} {a : Addr} {xs : List V} (h : H a = some (.lst xs)) : Sq true K H a xs := by
  unfold Sq
  exact bH.of h
theorem Sq.ofT {H : Hp} {a : Addr} {xs : List V} (h : H a = some (.tup xs)) : Sq false K H a xs := by
  unfold Sq
  exact cu.of h
section
variable {elts : List Expr} {x1 : Nat} {tp p pos : Pos} {l l1 l2 : Expr} {pl p1 p2 : aJ}
noncomputable def ziEnumK (k : Bool) (p : aJ) : eJ := fun ρ M R => p ρ M fun d M1 => match k, d with | false, .tup ds => R (c9 (jf ds.length) ds) M1 | true, .lst ds => R (c9 (jf ds.length) ds) M1 | _, _ => False
theorem Ec (k : Bool) (hK : X.K = K) (hg : Gl X "enumerate") (hm : X.mg "enumerate" = none) (hl : QE Γ X l pl) (hs : starEach [l] X.env = [(false, eval l X.env)] := by rfl) :
    QI Γ X (.Tuple elts x1 tp) (.Call (.Name "enumerate" p) [l] [] pos) (ziEnumK k pl) := (D3 k hK hg hm hl hs).imp fun σ H R ⟨β, ρ, M, R', zr, h, q⟩ => ⟨β, ρ, M, _, zr, h, fun d M1 v H1 x1 r1 h1 => by
  revert h1
  split
  · intro h1
    obtain ⟨a, vs, rfl, f, e, rs⟩ := dm r1
    refine ⟨a, rfl, ⟨vs, Sq.ofT e⟩, q _ _ _ _ x1 ?_ h1⟩
    rw [← rs.len]
    exact jB pZ rs fun M' H' x => by rw [← enum_zip]; exact qS (Sq.ofT (x.get f.1 e rfl))
  · intro h1
    obtain ⟨a, vs, rfl, f, e, rs⟩ := fT r1
    refine ⟨a, rfl, ⟨vs, Sq.KJ e⟩, q _ _ _ _ x1 ?_ h1⟩
    rw [← rs.len]
    exact jB pZ rs fun M' H' x => by rw [← enum_zip]; exact qS (Sq.KJ (x.get f.1 e rfl))
  · exact fun h => h.elim⟩
end
noncomputable def zRangeP (p : aJ) : aJ := fun ρ M Q => p ρ M fun d M1 => match d with | .int j => -(2 ^ 24) ≤ j ∧ j ≤ 2 ^ 24 ∧ ∀ a, M1 a = none → Q (.ptr a) (ax M1 a (.lst (jf j.toNat))) | _ => False
section
variable {e : Expr} {pe : aJ} {p p1 p2 pos : Pos}
theorem rL (hc : X.calm = true) (hg : Gl X "list") (hm : X.mg "list" = none) (Ge : Gl X "range") (Gf : X.mg "range" = none) (he : QE Γ X e pe) (hs : starEach [e] X.env = [(false, eval e X.env)] := by rfl) :
    QE Γ X (.Call (.Name "list" p) [.Call (.Name "range" p1) [e] [] p2] [] pos) (zRangeP pe) := (sF hc hg hm Ge Gf he hs).imp fun σ H Q ⟨β, ρ, M, Q', zr, h, q⟩ => ⟨β, ρ, M, _, zr, h, fun d M1 v H1 x1 r1 h1 => by
  revert h1
  split
  · rename_i j
    rintro ⟨b1, b2, h1⟩
    refine ⟨_, aK r1, b1, b2, fun l hl => ?_⟩
    have x2 := Ex.own x1.mz (.inr hl) (pZ (n := j.toNat) (β := β) (M := M1) (H := H1))
    exact q _ _ _ _ (x1.trans x2) (.ptr (by rw [updM_same]; rfl)) (h1 l (x1.mz.free hl))
  · exact fun h => h.elim⟩
noncomputable def truD (M : Mh) : Dv → Option Bool
  | .bl b => some b
  | .ao => some false
  | .int i => some (i != 0)
  | .str z => if z.length ≤ sizeLine then some ((z.length : Int) != 0) else none
  | .tup ds => some (!ds.isEmpty)
  | .lst ds => some (!ds.isEmpty)
  | .ptr a => match M a with | some (.lst ds) => some (!ds.isEmpty) | _ => none
  | _ => none
noncomputable def zTruth (p : aJ) : cQ := fun ρ M Q => p ρ M fun d M1 => match truD M1 d with | some b => Q b M1 | none => False
theorem aD.isEmpty {M : Mh} {H : Hp} {vs : List V} {ds : List Dv} (h : aD β M H vs ds) : vs.isEmpty = ds.isEmpty := by
  have := h.len
  cases vs <;> cases ds <;> simp_all
theorem Ed {M : Mh} {H : Hp} {v : V} {d : Dv} {b : Bool} (m : Mz β M H) (r : Rz β M H v d) (h : truD M d = some b) : AV K v H b := by
  cases r with
  | int i => cases h; exact rfl
  | bl i => cases h; exact rfl
  | ao => cases h; exact rfl
  | str z =>
    simp only [truD] at h
    split at h
    · rename_i hz
      cases h
      exact ⟨hz, rfl⟩
    · cases h
  | tup f e hl q => cases h; exact .inr (.inl ⟨_, cu.of e, by rw [aD.isEmpty ⟨hl, q⟩]⟩)
  | lst f e hl q => cases h; exact .inl ⟨_, bH.of e, by rw [aD.isEmpty ⟨hl, q⟩]⟩
  | ptr hs =>
    simp only [truD] at h
    split at h
    · rename_i ds ng
      cases h
      obtain ⟨vs, hv, rs⟩ := m.obj _ _ ng
      exact .inl ⟨_, bH.of hv, by rw [rs.isEmpty]⟩
    · cases h
  | set f e => cases h
  | exc f e => cases h
  | bq f e => cases h
  | cm f e => cases h
  | cn e => cases h
  | raw v => cases h
  | dk f e _ _ _ => cases h
  | dt f e _ _ _ => cases h
  | bI _ _ _ _ _ _ => cases h
theorem BJ (ha : QE Γ X e pe) (he : ∀ whole, isTrue e X.env whole = (do let v ← whole; standAt e.pos; holding [v] (truthy v)) := by intro _; rfl) : QT Γ X e (zTruth pe) := (AW ha he).imp fun σ H Q ⟨β, ρ, M, Q', zr, h, q⟩ => ⟨β, ρ, M, _, zr, h, fun d M1 v H1 x1 r1 h1 => by
  revert h1
  split
  · rename_i b hb
    intro h1
    exact ⟨b, Ed x1.mz r1 hb, q _ _ _ x1 h1⟩
  · exact fun h => h.elim⟩
end
theorem qv (i : Nat) {x : Str} {pos : Pos} (hN : X.N[i]? = some x := by rfl) (hv : mU X.env.scope x := by first | exact Or.inl rfl | exact Or.inr (Or.inl rfl) | exact Or.inr (Or.inr rfl)) (hd : (x == ("__debug__" : Str)) = false := by decide)
    (dE : (x == ("__classdict__" : Str)) = false := by decide) : QE Γ X (.Name x pos) (zVar i) := G0 hN hv hd dE
end
theorem NR {c : Bool} {A B : Prop} (h : c = true) (a : A) : if c = true then A else B := by rw [if_pos h]; exact a
theorem NS {c : Bool} {A B : Prop} (h : c = false) (b : B) : if c = true then A else B := by rw [h, if_neg Bool.false_ne_true]; exact b
theorem dB {c : Bool} {A B : Prop} (h1 : c = true → A) (h2 : c = false → B) : if c = true then A else B := by
  cases c
  · exact NS rfl (h2 rfl)
  · exact NR rfl (h1 rfl)
theorem mM {g : cG} {te : aJ} {M : Mh} (p : Dv → Bool) (I : aA → Prop) : ∀ {ds : List Dv} {τ : aA} {Q : Bool → Mh → Prop}, I τ → (∀ d ∈ ds, ∀ τ, I τ → ∀ R : aA → ZK, (∀ aC, I aC → R aC (.bl (p d)) M) → g d τ M fun aC M2 => te aC M2 (R aC)) → Q (ds.all p) M → jA g zNoIf te ds τ M Q
  | [], τ, Q, _, _, q => q
  | d :: ds, τ, Q, i, h, q => by
    refine h d List.mem_cons_self τ i (fun aC => zBool fun c M4 => if c = false then Q false M4 else jA g zNoIf te ds aC M4 Q) fun aC i2 => ?_
    show if p d = false then Q false M else jA g zNoIf te ds aC M Q
    cases e : p d with
    | false =>
      rw [if_pos rfl]
      rw [List.all_cons, e] at q
      exact q
    | true =>
      rw [if_neg (by decide)]
      rw [List.all_cons, e, Bool.true_and] at q
      exact mM p I i2 (fun d' hd => h d' (List.mem_cons_of_mem _ hd)) q
theorem p0 {g : cG} {tt : cQ} {te : aJ} (t : Dv → Bool) (f : Dv → Dv) (I : aA → Mh → Prop) : ∀ {ds : List Dv} {τ : aA} {M : Mh} {Q : List Dv → Mh → Prop}, I τ M →
    (∀ d ∈ ds, ∀ τ M, I τ M → ∀ (R0 : aA → Mh → Prop) (R : aA → ZK), (t d = true → ∀ aC M2, I aC M2 → R aC (f d) M2) → (t d = false → ∀ aC M2, I aC M2 → R0 aC M2) → g d τ M fun aC M2 => tt aC M2 fun b M3 => if b = true then te aC M3 (R aC) else R0 aC M3) →
    (∀ τ M, I τ M → Q ((ds.filter t).map f) M) → iu g tt te ds τ M Q
  | [], τ, M, Q, i, _, q => q τ M i
  | d :: ds, τ, M, Q, i, h, q => by
    refine h d List.mem_cons_self τ M i (fun aC M3 => iu g tt te ds aC M3 Q) (fun aC y M4 => iu g tt te ds aC M4 fun ys M5 => Q (y :: ys) M5) (fun e aC M2 i2 => ?_) fun e aC M2 i2 => ?_
    · refine p0 t f I i2 (fun d' hd => h d' (List.mem_cons_of_mem _ hd)) fun lL M3 i3 => ?_
      have := q lL M3 i3
      rw [List.filter_cons, if_pos e] at this
      exact this
    · refine p0 t f I i2 (fun d' hd => h d' (List.mem_cons_of_mem _ hd)) fun lL M3 i3 => ?_
      have := q lL M3 i3
      rw [List.filter_cons, if_neg (by rw [e]; decide)] at this
      exact this
theorem vB {g : cG} {te : aJ} (f : Dv → Int) (I : aA → Mh → Prop) : ∀ {ds : List Dv} {τ : aA} {M : Mh} {Q : List Int → Mh → Prop} {acc : List Int}, I τ M → acc.length + ds.length + 1 < scanBound → (∀ d ∈ ds, ∀ τ M, I τ M → ∀ R : aA → ZK, (∀ aC M2, I aC M2 → R aC (.int (f d)) M2) → g d τ M fun aC M2 => te aC M2 (R aC)) → (∀ τ M, I τ M → Q ((ds.map f).foldl cE acc) M) → kn g zNoIf te ds τ M Q acc
  | [], τ, M, Q, acc, i, _, _, q => q τ M i
  | d :: ds, τ, M, Q, acc, i, hl, h, q => by
    refine h d List.mem_cons_self τ M i (fun aC y M4 => match y with | .int k => acc.length + 1 < scanBound ∧ kn g zNoIf te ds aC M4 Q (cE acc k) | _ => False) fun aC M2 i2 => ?_
    rw [List.length_cons] at hl
    refine ⟨by omega, vB f I i2 ?_ (fun d' hd => h d' (List.mem_cons_of_mem _ hd)) fun lL M3 i3 => q lL M3 i3⟩
    have := sM (ns := acc) (m := f d)
    omega
noncomputable abbrev eI (ns : List Int) : Dv := .tup (ns.map .int)
noncomputable abbrev eN (af : List (List Int)) : Dv := .tup (af.map eI)
noncomputable abbrev jC (ns : List Int) : Dv := .lst (ns.map .int)
theorem nU : ∀ ns : List Int, fw (ns.map Dv.int) = some (ns.map Dt.int)
  | [] => rfl
  | n :: ns => by simp only [List.map_cons, fw, bK, nU ns]
theorem CV (ns : List Int) : bK (eI ns) = some (.tup (ns.map Dt.int)) := by simp only [eI, bK, nU, Option.map_some]
theorem vC {α : Type} {f : α → Dv} {g : α → Dt} (h : ∀ x, bK (f x) = some (g x)) : ∀ xs : List α, fw (xs.map f) = some (xs.map g)
  | [] => rfl
  | x :: xs => by simp only [List.map_cons, fw, h x, vC h xs]
theorem ko : ∀ xs ys : List Int, fh (xs.map Dt.int) (ys.map Dt.int) = decide (xs = ys)
  | [], [] => by simp [fh]
  | [], _ :: _ => by simp [fh]
  | _ :: _, [] => by simp [fh]
  | x :: xs, y :: ys => by
    rw [List.map_cons, List.map_cons, fh, ko xs ys, bR]
    by_cases h1 : x = y <;> by_cases h2 : xs = ys <;> simp [h1, h2]
theorem tJ {n : Nat} : ∀ {ds : List Dt}, (∀ d ∈ ds, fS d ≤ n) → fi ds ≤ n
  | [], _ => by rw [fi]; exact Nat.zero_le _
  | d :: ds, h => by
    rw [fi]
    exact Nat.max_le.mpr ⟨h d List.mem_cons_self, tJ fun d' hd => h d' (List.mem_cons_of_mem _ hd)⟩
theorem vD (ns : List Int) : fi (ns.map Dt.int) ≤ 0 := tJ fun d hd => by
  obtain ⟨i, _, rfl⟩ := List.mem_map.mp hd
  exact Nat.le_refl _
theorem gN {M : Mh} (ns : List Int) : ∀ d ∈ ns.map Dv.int, Pin M d := fun d hd => by
  obtain ⟨i, _, rfl⟩ := List.mem_map.mp hd
  exact .int i
theorem lO {M : Mh} (ns : List Int) : Pin M (eI ns) := .tup (gN ns)
theorem zz {M : Mh} (af : List (List Int)) : Pin M (eN af) := .tup fun d hd => by
  obtain ⟨r, _, rfl⟩ := List.mem_map.mp hd
  exact lO r
theorem Ee {α β : Type} {f : α → β} {xs : List α} {i : Int} {x : α} (h : cZ xs i = some x) : cZ (xs.map f) i = some (f x) := by
  unfold cZ at h ⊢
  rw [List.length_map]
  cases e : g7 xs.length i with
  | none => rw [e] at h; cases h
  | some j => rw [e] at h; simp only [Option.bind_some] at h ⊢; rw [List.getElem?_map, h]; rfl
theorem zA {α : Type} {xs : List α} {k : Nat} (h : k < xs.length) : cZ xs ((k : Nat) : Int) = some xs[k] := dF (List.getElem?_eq_getElem h)
noncomputable def spLaw (K : PySem.W.Frag) (tb : cP) : Sp := fun vs H Q _ => ∃ (a : Addr) (ns : List Int), vs = [.ref a] ∧ bH K H a (ns.map V.int) ∧ ns.length ≤ 63 ∧ CD tb.g H ∧ (∀ p ∈ tb.l, Lm H p) ∧ ∀ H', (∀ p ∈ tb.l, ∃ ps, H' p.1 = some (.lam ps)) → Q (.bl true) H'
noncomputable def Hj : cI := fun ds M Q _ => ∃ ns : List Int, ds = [.bq ns] ∧ ns.length ≤ 63 ∧ (∀ a, M a = none) ∧ ∀ M', Q (.bl true) M'
theorem Hk {P : Program} {w : World} {K : PySem.W.Frag} {mg : Str → Option Value} {base : Heap} {k : Nat} {f : Addr} {fd : FuncData} {x : Str} {tb : cP} (G : FnOk P w K mg base bt k f fd [x] (bz P w K tb Hj)) : FnOk P w K mg base bt k f fd [x] (spLaw K tb) :=
  G.imp fun vs H Q E ⟨a, ns, e, hS, hl, hT, hL, q⟩ => by
    subst e
    have m : Mz ⟨P, w, K, tb, []⟩ (fun _ => none) H := ⟨(fun a o e => nomatch e), hT, (fun a ha => absurd ha (by simp)), (fun a o e => nomatch e), hL⟩
    refine ⟨⟨P, w, K, tb, []⟩, [.bq ns], fun _ => none, fun d _ => d = .bl true, fun _ _ => False, rfl, rfl, rfl, rfl, m, .cons ?_ .nil, ⟨ns, rfl, hl, fun _ => rfl, fun _ => rfl⟩, fun d M' v H' x r h => ?_, fun _ _ _ _ h => h.elim⟩
    · have fz : Fz ⟨P, w, K, tb, []⟩ (fun _ => none) a := ⟨rfl, by simp⟩
      rcases hS with (h | ⟨o, h⟩) | h
      · exact .cm fz h
      · exact .bq fz h
      · exact .cn h
    · subst h
      rw [dw r]
      exact q H' fun p hp => let ⟨ps, e, _⟩ := x.mz.lams p hp; ⟨ps, e⟩
noncomputable def Keeps (M0 M : Mh) : Prop := ∀ a o, M0 a = some o → M a = some o
theorem Keeps.refl {M0 : Mh} : Keeps M0 M0 := fun _ _ h => h
theorem Keeps.upd {M0 M : Mh} {a : Addr} {o : Mo} (ha : M0 a = none) (h : Keeps M0 M) : Keeps M0 (ax M a o) := fun b u e => by
  rw [aj (fun z => by rw [z, ha] at e; cases e)]
  exact h b u e
theorem jD {M0 M : Mh} {Q : ZK} {d : Dv} (h : Keeps M0 M) (p : Pin M0 d) (q : Q d M0) : jQ M0 Q d M := .inr ⟨h, d, .pin p, q⟩
theorem dn {lo : Int} {n i : Nat} {d : Dv} (h : (c7 lo n)[i]? = some d) : d = .int (lo + (i : Nat)) ∧ i < n := by
  unfold c7 at h
  rw [List.getElem?_map] at h
  cases e : (List.range n)[i]? with
  | none => rw [e] at h; cases h
  | some k =>
    rw [e] at h
    obtain ⟨h1, h2⟩ := List.getElem?_eq_some_iff.mp e
    rw [List.getElem_range] at h2
    subst h2
    exact ⟨(Option.some.inj h).symm, by simpa using h1⟩
theorem oY {lo : Int} {n : Nat} {d : Dv} (h : d ∈ c7 lo n) : ∃ i : Nat, i < n ∧ d = .int (lo + (i : Nat)) := by
  obtain ⟨i, hi⟩ := List.mem_iff_getElem?.mp h
  obtain ⟨e, l⟩ := dn hi
  exact ⟨i, l, e⟩
theorem rangeD_len (lo : Int) (n : Nat) : (c7 lo n).length = n := by simp [c7]
theorem rg {xs ys : List Dv} {k : Nat} {d : Dv} (h : (c9 xs ys)[k]? = some d) : ∃ x y, d = .tup [x, y] ∧ xs[k]? = some x ∧ ys[k]? = some y := by
  unfold c9 at h
  rw [List.getElem?_map, Option.map_eq_some_iff] at h
  obtain ⟨p, h, rfl⟩ := h
  rw [List.getElem?_zip_eq_some] at h
  exact ⟨p.1, p.2, rfl, h.1, h.2⟩
theorem Ef {n k : Nat} {d : Dv} (h : (jf n)[k]? = some d) : d = .int (k : Nat) ∧ k < n := by
  unfold jf at h
  rw [List.getElem?_map] at h
  cases e : (List.range n)[k]? with
  | none => rw [e] at h; cases h
  | some j =>
    rw [e] at h
    obtain ⟨h1, h2⟩ := List.getElem?_eq_some_iff.mp e
    rw [List.getElem_range] at h2
    subst h2
    exact ⟨(Option.some.inj h).symm, by simpa using h1⟩
theorem Eg {ds : List Dv} {k : Nat} {d : Dv} (h : (c9 (jf ds.length) ds)[k]? = some d) : ∃ x, d = .tup [.int (k : Nat), x] ∧ ds[k]? = some x := by
  obtain ⟨x, y, rfl, h1, h2⟩ := rg h
  obtain ⟨rfl, _⟩ := Ef h1
  exact ⟨y, rfl, h2⟩
theorem atI_zero {α : Type} {x : α} {xs : List α} : cZ (x :: xs) 0 = some x := dF (j := 0) rfl
theorem oZ {α : Type} {f : α → Dv} {xs : List α} {k : Nat} {d : Dv} (h : (xs.map f)[k]? = some d) : ∃ x, xs[k]? = some x ∧ d = f x := by
  rw [List.getElem?_map, Option.map_eq_some_iff] at h
  obtain ⟨x, h, e⟩ := h
  exact ⟨x, h, e.symm⟩
theorem pairsD_len (xs ys : List Dv) : (c9 xs ys).length = min xs.length ys.length := by simp [c9]
end L2
namespace L2
open PySem PySem.Spec PyProof.Rows
theorem zB {M : Model} {A : Around} {E : Value → Shared → Prop} {s : Shared} {scope : Scope} {globals : Addr} {cl : List (Str × Addr)} {qual : Str} {env : Env} {Q : Env → Shared → Prop}
    (h : Q (newEnv scope s.heap.objs.size globals (cellsFrom (s.heap.objs.size + 1) scope.names cl) qual none .none (some env) builtinsNs) { s with heap := pushCells (s.heap.push { cls := .type "dict", data := .dict #[] }) scope.names }) :
    wpAny M A (newFunctionEnv scope globals cl [] qual none .none (some env)) Q E s := by
  simp only [newFunctionEnv, Option.isSome_some, if_true]
  refine wpAny_bind (wpAny_alloc ?_)
  refine wpAny_bind (wpAny_layCells _ (fun name kind cells => by cases NT : kind == NameKind.cell <;> simp [NT]) _ _ _ _ ?_)
  rw [show ({ s with heap := s.heap.push { cls := .type "dict", data := .dict #[] } } : Shared).heap.objs.size = s.heap.objs.size + 1 from Heap.size_push ..]
  exact wpAny_pure h
theorem jg : ∀ (names : List (Str × NameKind)) (h : Heap) (cl : List (Str × Addr)) (x : Str) (c : Addr), (cellsFrom h.objs.size names cl).lookup x = some c →
    ((x, NameKind.cell) ∈ names ∧ h.objs.size ≤ c ∧ (pushCells h names).IsCell c none) ∨ ((∀ k, (x, k) ∈ names → k ≠ .cell) ∧ cl.lookup x = some c)
  | [], h, cl, x, c, e => .inr ⟨fun k z => by simp at z, e⟩
  | (n, k) :: r, h, cl, x, c, e => by
    unfold cellsFrom at e
    unfold pushCells
    split at e
    · rename_i hk
      have qH : k = .cell := by simpa using hk
      subst qH
      rw [if_pos hk]
      have sz : (h.push { cls := .type "cell", data := .cell none }).objs.size = h.objs.size + 1 := Heap.size_push ..
      rw [← sz] at e
      rcases jg r _ _ x c e with ⟨a, b, d⟩ | ⟨a, b⟩
      · exact .inl ⟨List.mem_cons_of_mem _ a, by omega, d⟩
      · rw [List.lookup_cons] at b
        cases hx : x == n with
        | true =>
          rw [hx] at b
          cases b
          have e2 : x = n := by simpa using hx
          subst e2
          exact .inl ⟨List.mem_cons_self, Nat.le_refl _, ⟨_, pushCells_keeps r _ _ _ (Heap.get?_push_size _ rfl), rfl⟩⟩
        | false =>
          rw [hx] at b
          refine .inr ⟨fun k2 z => ?_, b⟩
          rcases List.mem_cons.mp z with q | q
          · cases q; simp at hx
          · exact a k2 q
    · rename_i hk
      rw [if_neg hk]
      rcases jg r h cl x c e with ⟨a, b, d⟩ | ⟨a, b⟩
      · exact .inl ⟨List.mem_cons_of_mem _ a, b, d⟩
      · refine .inr ⟨fun k2 z => ?_, b⟩
        rcases List.mem_cons.mp z with q | q
        · cases q; intro z; subst z; exact hk rfl
        · exact a k2 q
theorem cells_apart : ∀ (names : List (Str × NameKind)) (h : Heap) (cl : List (Str × Addr)) (x y : Str) (c : Addr), (∀ n c, cl.lookup n = some c → c < h.objs.size) → (∀ x y c, cl.lookup x = some c → cl.lookup y = some c → x = y) → (cellsFrom h.objs.size names cl).lookup x = some c → (cellsFrom h.objs.size names cl).lookup y = some c → x = y
  | [], h, cl, x, y, c, _, inj, e, e' => inj x y c e e'
  | (n, k) :: r, h, cl, x, y, c, lt, inj, e, e' => by
    unfold cellsFrom at e e'
    split at e
    · rename_i hk
      rw [if_pos hk] at e'
      have sz : (h.push { cls := .type "cell", data := .cell none }).objs.size = h.objs.size + 1 := Heap.size_push ..
      rw [← sz] at e e'
      refine cells_apart r _ _ x y c (fun m d z => ?_) (fun x y d a b => ?_) e e'
      · rw [sz]
        rw [List.lookup_cons] at z
        cases hm : m == n with
        | true => rw [hm] at z; cases z; exact Nat.lt_succ_self _
        | false => rw [hm] at z; exact Nat.lt_succ_of_lt (lt m d z)
      · rw [List.lookup_cons] at a b
        have old : ∀ z, cl.lookup z = some h.objs.size → False := fun z q => absurd (lt _ _ q) (Nat.lt_irrefl _)
        cases hx : x == n with
        | true =>
          rw [hx] at a
          cases a
          cases hy : y == n with
          | true => rw [show x = n by simpa using hx, show y = n by simpa using hy]
          | false => rw [hy] at b; exact (old y b).elim
        | false =>
          rw [hx] at a
          cases hy : y == n with
          | true => rw [hy] at b; cases b; exact (old x a).elim
          | false => rw [hy] at b; exact inj x y d a b
    · rename_i hk
      rw [if_neg hk] at e'
      exact cells_apart r h cl x y c lt inj e e'
theorem jE : ∀ (names : List (Str × NameKind)) (n : Nat) (cl : List (Str × Addr)) (x : Str), ((x, NameKind.cell) ∈ names ∨ ∃ c, cl.lookup x = some c) → ∃ c, (cellsFrom n names cl).lookup x = some c
  | [], n, cl, x, h => by
    rcases h with h | h
    · simp at h
    · exact h
  | (y, k) :: r, n, cl, x, h => by
    unfold cellsFrom
    split
    · rename_i hk
      refine jE r _ _ x ?_
      by_cases e : x = y
      · subst e
        exact .inr ⟨n, by rw [List.lookup_cons]; simp⟩
      · rcases h with h | ⟨c, h⟩
        · rcases List.mem_cons.mp h with q | q
          · cases q; exact absurd rfl e
          · exact .inl q
        · exact .inr ⟨c, by rw [List.lookup_cons, show (x == y) = false by simpa using e]; exact h⟩
    · rename_i hk
      refine jE r _ _ x ?_
      rcases h with h | h
      · rcases List.mem_cons.mp h with q | q
        · cases q; exact absurd rfl hk
        · exact .inl q
      · exact .inr h
theorem wY {X : Cx} {pins : List (Addr × Obj)} {σ : St} {H : Hp} {s : Shared} (I : Inv X pins σ H s) {x : Str} {c : Addr} (h : X.env.cells.lookup x = some c) : c < s.heap.objs.size := by
  obtain ⟨v, o, ho, _⟩ := I.cell x c h
  exact Heap.lt_size ho
noncomputable abbrev ni (X : Cx) (N' : List Str) (scope : Scope) (cl : List (Str × Addr)) (C : Addr) (s : Shared) (H : Hp) (fp : List Addr) (own : Str → Bool) : Cx := { gD X N' scope cl C s H fp with fn := own }
noncomputable def dy (N : List Str) (sc scope : Scope) (N' : List Str) (tn : Nat) (idx : List Nat) : Prop :=
  scope.kind = .function ∧ (∀ y ∈ scope.names, (y.2 = .cell → scope.names.lookup y.1 = some .cell) ∧ (y.2 = .local → scope.names.lookup y.1 = some .local) ∧ (y.2 = .free → sc.names.lookup y.1 = some .cell ∨ sc.names.lookup y.1 = some .free)) ∧
    N'.length = tn + idx.length ∧ ∀ p ∈ idx.zip (N'.drop tn), N[p.1]? = some p.2 ∧ scope.names.lookup p.2 = some .free
instance (N : List Str) (sc scope : Scope) (N' : List Str) (tn : Nat) (idx : List Nat) : Decidable (dy N sc scope N' tn idx) := by unfold dy; infer_instance
theorem dy.at {N : List Str} {sc scope : Scope} {N' : List Str} {tn : Nat} {idx : List Nat} (B : dy N sc scope N' tn idx) {σ : St} {i : Nat} {x : Str} {v : V} (h1 : N'[i]? = some x) (h2 : (bh tn idx σ)[i]? = some (some v)) :
    scope.names.lookup x = some .free ∧ ∃ j : Nat, N[j]? = some x ∧ σ[j]? = some (some v) := by
  obtain ⟨_, _, b3, b4⟩ := B
  unfold bh at h2
  by_cases hi : i < tn
  · rw [List.getElem?_append_left (by simpa using hi), List.getElem?_replicate, if_pos hi] at h2
    cases h2
  · rw [List.getElem?_append_right (by simpa using hi), List.length_replicate, List.getElem?_map] at h2
    cases e : idx[i - tn]? with
    | none => rw [e] at h2; cases h2
    | some k =>
      rw [e] at h2
      have h3 : (σ[k]?).join = some v := Option.some.inj h2
      have e2 : (N'.drop tn)[i - tn]? = some x := by
        rw [List.getElem?_drop]
        have : tn + (i - tn) = i := by omega
        rw [this]; exact h1
      have m : (k, x) ∈ idx.zip (N'.drop tn) := by
        refine List.mem_of_getElem? (i := i - tn) ?_
        rw [List.getElem?_zip_eq_some]
        exact ⟨e, e2⟩
      obtain ⟨a, b⟩ := b4 _ m
      refine ⟨b, k, a, ?_⟩
      cases q : σ[k]? with
      | none => rw [q] at h3; cases h3
      | some w => rw [q] at h3; exact congrArg some h3
theorem dy.len {N : List Str} {sc scope : Scope} {N' : List Str} {tn : Nat} {idx : List Nat} (B : dy N sc scope N' tn idx) (σ : St) : (bh tn idx σ).length = N'.length := by
  rw [B.2.2.1]
  unfold bh
  simp
noncomputable def dz (scope : Scope) (x : Str) : Bool := scope.names.lookup x == some .cell
noncomputable abbrev kq (X : Cx) (N' : List Str) (scope : Scope) (P : Cx → Prop) : Prop := ∀ (cl : List (Str × Addr)) (C : Addr) (s : Shared) (H : Hp) (fp : List Addr), P (ni X N' scope cl C s H fp (dz scope))
theorem wZ {X : Cx} {pins : List (Addr × Obj)} {σ aG : St} {H H' : Hp} {s : Shared} {N' : List Str} {scope : Scope} {cs : List (Str × Addr)} {C : Addr} {ex : List Addr} {h1 : Heap} {m0 : Str → Option Value} {g' : Array GenState} {tk : Nat}
    (I : Inv X pins σ H s) (mC : scope.kind = .function)
    (cT : ∀ n c, cs.lookup n = some c → (dz scope n = true ∧ C < c ∧ h1.IsCell c none ∧ H' c = none) ∨ (dz scope n = false ∧ X.env.cells.lookup n = some c))
    (Md : ∀ x y c, cs.lookup x = some c → cs.lookup y = some c → x = y)
    (nB : ∀ x, ((relabel scope X.env).names.lookup x = some .cell ∨ (relabel scope X.env).names.lookup x = some .free) → ∃ c, cs.lookup x = some c)
    (hC : s.heap.objs.size ≤ C) (hf : ∀ b ∈ ex, cY X pins H b) (wj : ∀ b ∈ ex, b < s.heap.objs.size)
    (yy : Un (dO X.stack) ex H H' s.heap h1) (hok : cp X.prog X.w H' h1) (oy : H' C = none) (oz : ∀ b o, s.heap.get? b = some o → h1.get? b = some o) (fP : h1.Ns C m0)
    (sr : ∀ (i : Nat) (x : Str) (v : V), N'[i]? = some x → aG[i]? = some (some v) → dz scope x = false ∧ ((relabel scope X.env).names.lookup x = some .cell ∨ (relabel scope X.env).names.lookup x = some .free) ∧ mU X.env.scope x ∧ (X.env.kindOf x = some .cell ∨ X.env.kindOf x = some .free) ∧ ∃ j : Nat, X.N[j]? = some x ∧ σ[j]? = some (some v))
    (hlen : aG.length = N'.length) (hg : Gn s.gens.size g') : Inv (ni X N' scope cs C s H ex (dz scope)) [] aG H' { s with heap := h1, gens := g', toks := tk } := by
  have yz : ∀ b ∈ ex, ∀ x c, X.env.cells.lookup x = some c → c ≠ b := fun b hb => (hf b hb).2.2.2.2.1
  have NU : ∀ b ∈ ex, ∀ x c, cs.lookup x = some c → c ≠ b := fun b hb x c e z => by
    rcases cT x c e with ⟨_, q, _⟩ | ⟨_, q⟩
    · subst z; exact absurd (Nat.lt_trans (Nat.lt_of_le_of_lt hC q) (wj _ hb)) (Nat.lt_irrefl _)
    · exact yz b hb x c q z
  refine ⟨⟨I.ok.mod, mC, I.ok.glob, I.ok.blt, hC, Md, nB, fun x c hx e => ?_, fun z => I.ok.hd z, I.ok.frames, .inl rfl, fun b hb => ⟨Nat.ne_of_lt (Nat.lt_of_lt_of_le (wj b hb) hC), fun x c e => NU b hb x c e⟩,
      I.bs, Nat.le_trans I.ok.bsz I.sz, fun b o e hb => ?_, fun b hb z => ?_, I.stack, I.jT⟩, rfl, hg, yy, ⟨m0, fP, fun i x v e1 e2 e3 => ?_⟩, fun x c e => ?_, oy, fun x c e => ?_, fun p hp => absurd (show p ∈ ([] : List (Addr × Obj)) from hp) (by simp), hok, hlen⟩
  · rcases cT x c e with ⟨_, q, _⟩ | ⟨q, _⟩
    · exact Nat.le_of_lt (Nat.lt_of_le_of_lt hC q)
    · have gE : dz scope x = true := hx
      rw [q] at gE; cases gE
  · rcases (hf b hb).2.2.2.1 with z | z
    · exact I.ok.noex b o e z
    · exact absurd (Nat.lt_of_lt_of_le (Heap.lt_size e) (Nat.le_trans I.ok.bsz z)) (Nat.lt_irrefl _)
  · rcases List.mem_cons.mp (I.eC b z) with q | q
    · exact (hf b hb).2.1 q
    · exact (hf b hb).2.2.1 q
  · obtain ⟨k0, k1, vx, k2, j, n1, n2⟩ := sr i x v e1 e2
    obtain ⟨m, hn, hl⟩ := I.loc
    obtain ⟨u, r, l⟩ := hl j x v n1 n2 vx
    refine ⟨u, r, .inr ⟨k1, ?_⟩⟩
    obtain ⟨c', yA⟩ := nB x k1
    rcases l with ⟨kl, _⟩ | ⟨_, c, ec, z⟩
    · rcases k2 with q | q <;> (rw [kl] at q; cases q)
    · rcases cT x c' yA with ⟨q, _⟩ | ⟨_, q⟩
      · rw [k0] at q; cases q
      · have : c' = c := Option.some.inj (q.symm.trans ec)
        subst this
        exact ⟨c', yA, z.keeps oz⟩
  · rcases cT x c e with ⟨_, _, q, _⟩ | ⟨_, q⟩
    · exact ⟨_, q⟩
    · obtain ⟨v, z⟩ := I.cell x c q
      exact ⟨v, z.keeps oz⟩
  · rcases cT x c e with ⟨_, _, _, q⟩ | ⟨_, q⟩
    · exact q
    · obtain ⟨v, o, ho, hd⟩ := I.cell x c q
      exact yy.free c o ho (I.freeC x c q) fun z => yz c z x c q rfl
section
variable {X : Cx}
theorem w5 {pins : List (Addr × Obj)} {σ : St} {H2 : Hp} {s2 : Shared} {tg elt iter : Expr} {ifs : List Expr} {scope : Scope} {pos : Pos} {N' : List Str} {tn : Nat} {idx : List Nat} {g : TG} {tt : TT} {te : TE} {it : Addr} {fp : List Addr} {cD : Nat → Heap → Prop} {J : It}
    {cl : List (Str × Addr)} {E : Value → Shared → Prop} {RR : Value → Addr → Result → Shared → Prop} {Q : VK}
    (hc : X.calm = true) (B : dy X.N X.env.scope scope N' tn idx)
    (hg : kq X N' scope fun Y => PG Y tg g) (ht : kq X N' scope fun Y => iX Y ifs tt) (he : kq X N' scope fun Y => PE Y elt te)
    (I : Inv X pins σ H2 s2) (T : Turn X.prog X.w X.K tg J fp it cD) (st : cD 0 s2.heap) (f2 : ∀ b ∈ fp, cY X pins H2 b)
    (cO : ∀ n c, cl.lookup n = some c → X.env.cells.lookup n = some c) (ez : ∀ n, (n, NameKind.free) ∈ scope.names → ∃ c, cl.lookup n = some c)
    (hq : ∀ D, H2 D = none → ∃ W : Nat → Nat → St → Hp → Prop, (∃ m, W 0 m (bh tn idx σ) (upd H2 D (.lst []))) ∧ wk J g tt te D Q W)
    (yB : ∀ D C m s' H', Inv X pins σ H' s' → cY X pins H' C → s'.heap.Ns C m → Q (.ref D) H' → RR (.ref D) C (.ok .next) s') :
    wpAny (model X.prog X.w) X.A (newList []) (fun acc dG => wpAny (model X.prog X.w) X.A (newFunctionEnv scope X.env.globals cl [] X.env.qual none .none (some X.env)) (fun k6 su =>
      codeAny (model X.prog X.w) X.A (.compStart (.ListComp elt [⟨tg, iter, ifs, 0⟩] scope pos) 0 (.ref it) acc { k6 with scope := relabel scope X.env }) (RR acc k6.locals) su) E dG) E s2 := by
  obtain ⟨b1, b2, b3, b4⟩ := id B
  refine wpAny_newObj_type (zB ?_)
  dsimp only
  generalize hG : s2.heap.push { cls := .type "list", dict := none, data := .seq ([] : List Value).toArray } = G
  have hC : G.objs.size = s2.heap.objs.size + 1 := by rw [← hG, Heap.size_push]
  generalize Hl : pushCells (G.push { cls := .type "dict", data := .dict #[] }) scope.names = di
  have gf : di.Ns G.objs.size fun _ => none := by rw [← Hl]; exact (Heap.Ns.new G (.type "dict")).keeps (pushCells_keeps _ _)
  have nj : ∀ b o, G.get? b = some o → di.get? b = some o := fun b o e => by rw [← Hl]; exact pushCells_keeps _ _ b o (Heap.get?_push_of_some _ e)
  have sv : s2.heap.objs.size ≠ G.objs.size := by rw [hC]; exact Nat.ne_of_lt (Nat.lt_succ_self _)
  have gJ : s2.heap.objs.size ≤ G.objs.size := by rw [hC]; exact Nat.le_succ _
  have below : ∀ b, b < s2.heap.objs.size → b ≠ G.objs.size := fun b hb => by rw [hC]; exact Nat.ne_of_lt (Nat.lt_succ_of_lt hb)
  have old : ∀ b o, s2.heap.get? b = some o → di.get? b = some o := fun b o e => nj b o (hG ▸ Heap.get?_push_of_some _ e)
  have yC : di.get? s2.heap.objs.size = some { cls := .type "list", data := .seq ([] : List Value).toArray } := nj _ _ (hG ▸ Heap.get?_push_size _ rfl)
  generalize tK : cellsFrom (G.objs.size + 1) scope.names cl = cs
  have CW : (G.push { cls := .type "dict", data := .dict #[] }).objs.size = G.objs.size + 1 := Heap.size_push ..
  have Hm : ∀ x, (x, NameKind.cell) ∈ scope.names → dz scope x = true := fun x hx => by
    unfold dz
    rw [(b2 _ hx).1 rfl]
    rfl
  have Eh : ∀ x, (∀ k, (x, k) ∈ scope.names → k ≠ NameKind.cell) → dz scope x = false := fun x hx => by
    unfold dz
    cases q : scope.names.lookup x with
    | none => rfl
    | some k => have := hx k (PySem.mem_of_lookup q); simpa using this
  have look : ∀ x c, cs.lookup x = some c → (dz scope x = true ∧ G.objs.size < c ∧ di.IsCell c none) ∨ (dz scope x = false ∧ cl.lookup x = some c) := fun x c e => by
    rw [← tK, ← CW] at e
    rcases jg scope.names _ cl x c e with ⟨a, b, d⟩ | ⟨a, b⟩
    · rw [Hl] at d
      rw [CW] at b
      exact .inl ⟨Hm x a, b, d⟩
    · exact .inr ⟨Eh x a, b⟩
  have inj : ∀ x y c, cs.lookup x = some c → cs.lookup y = some c → x = y := fun x y c e e' => by
    rw [← tK, ← CW] at e e'
    refine cells_apart scope.names _ cl x y c (fun n d z => ?_) (fun x y d a b => I.ok.inj x y d (cO x d a) (cO y d b)) e e'
    rw [CW, hC]
    exact Nat.lt_succ_of_lt (Nat.lt_succ_of_lt (wY I (cO n d z)))
  have qF : H2 s2.heap.objs.size = none := I.hok.fresh (Nat.le_refl _)
  have oy : upd H2 s2.heap.objs.size (.lst []) G.objs.size = none := by rw [ae (Ne.symm sv)]; exact I.hok.fresh gJ
  have sx : cp X.prog X.w (upd H2 s2.heap.objs.size (.lst [])) di := I.hok.laid old (Nat.le_refl _) ⟨Nat.zero_le _, [], 0, .nil, yC⟩
  have ix : ∀ b ∈ fp, b < s2.heap.objs.size := fun b hb => let ⟨o, e, _⟩ := T.obj _ _ st b hb; Heap.lt_size e
  obtain ⟨W, ⟨m0, w0⟩, turn⟩ := hq s2.heap.objs.size qF
  have I1 : Inv (ni X N' scope cs G.objs.size s2 H2 fp (dz scope)) [] (bh tn idx σ) (upd H2 s2.heap.objs.size (.lst [])) { s2 with heap := di, toks := s2.toks } := by
    refine wZ (g' := s2.gens) (m0 := fun _ => none) I b1 (fun n c e => ?_) inj (fun x hx => ?_) gJ f2 ix (Un.laid old (Nat.le_refl _) qF) sx oy old gf (fun i x v e1 e2 => ?_) (B.len σ) I.bare.self
    · rcases look n c e with ⟨o, a, b⟩ | ⟨o, a⟩
      · refine .inl ⟨o, a, b, ?_⟩
        have : c ≠ s2.heap.objs.size := fun z => by rw [z, hC] at a; exact absurd (Nat.lt_trans a (Nat.lt_succ_self _)) (fun h => by omega)
        rw [ae this]
        exact I.hok.fresh (Nat.le_of_lt (Nat.lt_of_le_of_lt gJ a))
      · exact .inr ⟨o, cO n c a⟩
    · rw [c0] at hx
      rw [← tK]
      cases q : scope.names.lookup x with
      | none => rw [q] at hx; rcases hx with z | z <;> cases z
      | some k0 =>
        have hm := PySem.mem_of_lookup q
        rw [q] at hx
        by_cases hk : k0 = .free
        · subst hk; exact jE _ _ _ _ (.inr (ez x hm))
        · have nk : (k0 == NameKind.free) = false := by simpa using hk
          simp only [Option.map_some, nk, Bool.false_and, Bool.false_eq_true, if_false] at hx
          rcases hx with z | z
          · have e0 : k0 = .cell := Option.some.inj z
            subst e0
            exact jE _ _ _ _ (.inl hm)
          · exact absurd (Option.some.inj z) hk
    · obtain ⟨fr, j, e4, e5⟩ := B.at e1 e2
      have kx := (b2 _ (PySem.mem_of_lookup fr)).2.2 rfl
      refine ⟨by unfold dz; rw [fr]; rfl, ?_, .inr kx, kx, j, e4, e5⟩
      rw [c0, fr]
      simp only [Option.map_some]
      split
      · exact .inl rfl
      · exact .inr rfl
  have stat : ∀ {H' : Hp}, (∀ b ∈ fp, H' b = none) → ∀ b ∈ fp, cY (ni X N' scope cs G.objs.size s2 H2 fp (dz scope)) [] H' b := fun hn b hb => by
    refine ⟨hn b hb, below b (ix b hb), fun z => ?_, .inl hb, (fun x c e => by
      rcases look x c e with ⟨_, a, _⟩ | ⟨_, a⟩
      · exact fun z => absurd (Nat.lt_trans (Nat.lt_of_le_of_lt gJ (z ▸ a)) (ix b hb)) (Nat.lt_irrefl _)
      · exact (f2 b hb).2.2.2.2.1 x c (cO x c a)), fun p hp => absurd (show p ∈ ([] : List (Addr × Obj)) from hp) (by simp)⟩
    rcases List.mem_cons.mp (I.eC b z) with q | q
    · exact (f2 b hb).2.1 q
    · exact (f2 b hb).2.2.1 q
  have loop : ∀ dG : Shared, dG = { s2 with heap := di, toks := s2.toks } →
      codeAny (model X.prog X.w) X.A (.compLoop (.ListComp elt [⟨tg, iter, ifs, 0⟩] scope pos) 0 (.ref it) (.ref s2.heap.objs.size) (compEnvC scope cs G.objs.size X.env))
        (RR (.ref s2.heap.objs.size) G.objs.size) dG := by
    rintro dG rfl
    refine codeAny_loop rfl (fun n s' => ∃ i τ H', Inv (ni X N' scope cs G.objs.size s2 H2 fp (dz scope)) [] τ H' s' ∧ cD i s'.heap ∧ (∀ b ∈ fp, H' b = none) ∧ W i n τ H') (fun n s hI => ?_) m0
      ⟨0, _, _, I1, T.keep _ _ _ st fun b _ o e => old b o e, fun b hb => by rw [ae (Nat.ne_of_lt (ix b hb))]; exact (f2 b hb).1, w0⟩
    show wpAny _ X.A ((compTurn (.ListComp elt [⟨tg, iter, ifs, 0⟩] scope pos) 0 (.ref it) (.ref s2.heap.objs.size) (compEnvC scope cs G.objs.size X.env)).onRaise (fun x => do noteFrame x (compEnvC scope cs G.objs.size X.env); theTreesLotGoes x)) _ _ s
    refine wpAny_noted ?_
    rw [compTurn_list]
    obtain ⟨i, τ, H3, I3, jv, kU, w3⟩ := hI
    rcases turn i n τ H3 w3 with ⟨stop, qn⟩ | ⟨go, step⟩
    · refine wpAny_bind (wpAny_standAt (wpAny_bind (wpAny_mono (T.done (ni X N' scope cs G.objs.size s2 H2 fp (dz scope)) rfl rfl rfl hc i [] s τ H3 (fun _ _ => False) I3 (stat kU) jv stop) (fun r s4 ⟨hr, I4⟩ => ?_) fun _ _ z => z.elim)))
      subst hr
      refine wpAny_pure ?_
      have J2 : Inv X pins σ H3 s4 := I.oe I4.os I4.base I4.hok I4.bare fun b hb => ⟨(f2 b hb).2.2.2.1, (f2 b hb).2.1, (f2 b hb).2.2.2.2.1, (f2 b hb).2.2.2.2.2⟩
      obtain ⟨mm, hm, _⟩ := I4.loc
      exact yB _ _ mm s4 H3 J2 (I.jO gJ I4.free) hm qn
    · refine wpAny_bind (wpAny_standAt (wpAny_bind (wpAny_mono (T.item (ni X N' scope cs G.objs.size s2 H2 fp (dz scope)) rfl rfl rfl hc i [] s τ H3 (fun _ _ => False) I3 (stat kU) jv go) (fun r s4 ⟨u, hr, h4⟩ => ?_) fun _ _ z => z.elim)))
      subst hr
      refine wpAny_bind (wpAny_mono h4 (fun _ s5 ⟨x, H5, I5, r5, y5, f9, oo⟩ => ?_) fun _ _ z => z.elim)
      have oq := I5.pinned (stat oo) (T.obj _ _ f9)
      have again : ∀ {g8 : St} {H7 : Hp} {s7 : Shared}, Inv (ni X N' scope cs G.objs.size s2 H2 fp (dz scope)) ([] ++ g6 fp s5.heap) g8 H7 s7 → (∃ m', m' < n ∧ W (i + 1) m' g8 H7) →
          ∃ m, m < n ∧ ∃ i τ H', Inv (ni X N' scope cs G.objs.size s2 H2 fp (dz scope)) [] τ H' s7 ∧ cD i s7.heap ∧ (∀ b ∈ fp, H' b = none) ∧ W i m τ H' := fun {g8 H7 s7} I7 n7 => by
        obtain ⟨m', hm, w7⟩ := n7
        refine ⟨m', hm, i + 1, g8, H7, I7.dR, T.keep _ _ _ f9 fun b hb o e => (I7.pin (b, o) (List.mem_append_right _ (List.mem_append_right _ (cA hb e)))).1, fun b hb => ?_, w7⟩
        obtain ⟨o, e, d⟩ := T.obj _ _ f9 b hb
        exact (I7.pin (b, o) (List.mem_append_right _ (List.mem_append_right _ (cA hb e)))).2.1
      refine wpAny_bind (wpAny_mono (hg cs G.objs.size s2 H2 fp _ s5 τ H5 x u _ oq r5 (step x H5 y5)) (fun _ s6 ⟨iy, H6, I6, q6⟩ => ?_) fun _ _ z => z.elim)
      refine wpAny_bind (wpAny_mono (ht cs G.objs.size s2 H2 fp _ s6 iy H6 _ I6 q6) (fun ok s7 ⟨H7, I7, q7⟩ => ?_) fun _ _ z => z.elim)
      cases ok with
      | false => exact wpAny_pure ⟨rfl, again I7 q7⟩
      | true =>
        refine wpAny_bind (wpAny_bind (wpAny_mono (he cs G.objs.size s2 H2 fp _ s7 iy H7 _ I7 q7) (fun yv s8 ⟨y, H8, I8, r8, q8⟩ => ?_) fun _ _ z => z.elim))
        obtain ⟨ys, m', hD, hsz, k7, w8⟩ := q8
        refine wpAny_bind (wpAny_mono (kZ (X := ni X N' scope cs G.objs.size s2 H2 fp (dz scope)) _ s8 iy H8 (.ref s2.heap.objs.size) [y] (.ref s2.heap.objs.size) [yv] (fun v H9 => v = .ao ∧ H9 = upd H8 s2.heap.objs.size (.lst (ys ++ [y]))) I8 rfl (.cons r8 .nil) ⟨_, ys, y, rfl, rfl, hD, hsz, rfl, rfl⟩) (fun rv s9 ⟨v9, H9, I9, _, _, e9⟩ => ?_) fun _ _ z => z.elim)
        subst e9
        exact wpAny_pure (wpAny_pure ⟨rfl, again I9 ⟨m', k7, w8⟩⟩)
  exact codeAny_compStart_list (loop _ rfl) (T.self _ 0 _ _ _ (T.keep _ _ _ st fun b _ o e => old b o e) (loop _ rfl))
variable {tg elt iter : Expr} {ifs : List Expr} {scope : Scope} {pos : Pos} {N' : List Str} {tn : Nat} {idx : List Nat} {wi : TI} {g : TG} {tt : TT} {te : TE}
variable {Γ : Gz}
theorem uQ {i : Nat} {y : Str} {py iY : Pos} (hN : X.N.Nodup) (d6 : X.N[i]? = some y) (hy : X.env.scope.names.lookup y = some .local) (hc : X.calm = true) (B : dy X.N X.env.scope scope N' tn idx) (hi : PI X tg iter wi)
    (hg : kq X N' scope fun Y => PG Y tg g) (ht : kq X N' scope fun Y => iX Y ifs tt) (he : kq X N' scope fun Y => PE Y elt te)
    (sy : swapsWith (.ListComp elt [⟨tg, iter, ifs, 0⟩] scope pos) (some (.Name y py)) iY.line X.env = pure true := by rfl)
    (hs : ∀ x, foldedSetIterable iter X.env x = pure x := by intro _; rfl) : PS X (.Assign [.Name y py] (.ListComp elt [⟨tg, iter, ifs, 0⟩] scope pos) iY) (pG (oA tn idx wi g tt te) (oi i)) := by
  refine ⟨?_⟩
  intro pins s σ H D I h
  obtain ⟨cl, ft, cO, ez⟩ := eT (scope := scope) (env := X.env) fun n hn => I.ok.has n ((B.2.1 _ hn).2.2 rfl)
  rw [exec_Assign_Name_used _ _ _ _ sy]
  refine wpAny_bind (wpAny_standAt (wpAny_bind ?_))
  show wpAny _ X.A (do let _ ← comprehension (.ListComp elt [⟨tg, iter, ifs, 0⟩] scope pos) scope X.env _ (newList []) false (eval iter X.env) (some (assign (.Name y py) X.env))) _ _ s
  refine wpAny_bind (wpAny_mono (wpAny_comprehension_free (use := some (assign (.Name y py) X.env)) (Q := fun _ s' => SP X pins D .next s') rfl hs ft B.1 (fun y hy => (B.2.1 y hy).2.1)
    (wpAny_mono (hi pins s σ H _ I h) (fun xv s1 h1 => wpAny_mono h1 (fun sg s2 h2 => ?_) fun _ _ z => z) fun _ _ z => z)) (fun _ s' hq => wpAny_pure (wpAny_pure hq)) fun _ _ z => z)
  obtain ⟨it, fp, cD, J, H2, e, I2, T, kS, f2, q2⟩ := h2
  subst e
  refine w5 (RR := fun acc C => compPost (model X.prog X.w) X.A X.xe (some (assign (.Name y py) X.env)) (fun _ s' => SP X pins D .next s') acc C) hc B hg ht he I2 T kS f2 cO ez q2 fun E C m s' H' J2 fC hm q => ?_
  show wpAny _ X.A (assign (.Name y py) X.env (.ref E)) _ _ s'
  refine wpAny_assign_Name (store_ok2 J2 hN d6 (.inl hy) (v := .ref E) rfl (fun s3 J3 ⟨a, gm, ha⟩ => ?_) (.inr hy))
  have eF : C ≠ a := by
    rcases ha with z | z
    · rw [z]; exact fC.2.1
    · exact fun w => fC.2.2.2.2.1 _ _ z w.symm
  exact ⟨m, hm.sameBut gm eF, fun h' mY => ⟨_, H', fC.turn J3 mY, q⟩⟩
end
theorem BK {scope : Scope} {env : Env} {x : Str} (h : scope.names.lookup x = some .cell ∨ scope.names.lookup x = some .free) : (relabel scope env).names.lookup x = some .cell ∨ (relabel scope env).names.lookup x = some .free := by
  rw [c0]
  rcases h with h | h
  · rw [h]; exact .inl rfl
  · rw [h]
    simp only [Option.map_some]
    split
    · exact .inl rfl
    · exact .inr rfl
theorem aF.rel {N : List Str} {sc scope : Scope} {env : Env} {N' : List Str} {tn : Nat} {idx : List Nat} (B : aF N sc scope N' tn idx) : aF N (relabel sc env) scope N' tn idx :=
  ⟨B.1, fun y hy => ⟨(B.2.1 y hy).1, (B.2.1 y hy).2.1, fun z => BK ((B.2.1 y hy).2.2 z)⟩, B.2.2.1, B.2.2.2⟩
end L2
namespace L2
open PySem PySem.Spec PySem.W PyProof.Rows
section
variable {X : Cx} {Γ : Gz} {β : Bz} {K : PySem.W.Frag}
theorem Pin.mono {M M' : Mh} {d : Dv} (h : Pin M d) : (∀ a, (M a).isSome = true → (M' a).isSome = true) → Pin M' d := by
  intro k
  induction h with
  | int i => exact .int i
  | bl b => exact .bl b
  | ao => exact .ao
  | str z => exact .str z
  | tup h ih => exact .tup ih
  | lst h ih => exact .lst ih
  | dk h ih => exact .dk ih
  | dt h ih => exact .dt ih
  | bI h ih => exact .bI ih
  | set ns => exact .set ns
  | ptr h => exact .ptr (k _ h)
  | exc C => exact .exc C
  | bq ns => exact .bq ns
  | raw v => exact .raw v
noncomputable def dg (M : Mh) (a : Addr) : Mh := fun b => if b = a then none else M b
theorem cS {M : Mh} {a : Addr} : dg M a a = none := by unfold dg; rw [if_pos rfl]
theorem bF {M : Mh} {a b : Addr} (h : b ≠ a) : dg M a b = M b := by unfold dg; rw [if_neg h]
structure Hn (M1 M : Mh) (ρ : aA) : Prop where
  env : ∀ (i : Nat) (d : Dv), ρ[i]? = some (some d) → Pin M d
  obj : ∀ b o, M b = some o → M1 b = some o ∨ ∀ d ∈ o.items, Pin M d
theorem Zr.freeze {M : Mh} {ρ : aA} {σ : St} {H : Hp} {i : Nat} {a : Addr} {ds : List Dv} (z : Zr Γ β M ρ σ H) (hi : ρ[i]? = some (some (.ptr a))) (ha : M a = some (.lst ds)) (h0 : Γ.M0 a = none) (fr : Hn Γ.M0 (dg M a) (ρ.set i (some (.lst ds)))) :
    Zr Γ β (dg M a) (ρ.set i (some (.lst ds))) σ H ∧ Ev β M H (dg M a) H := by
  have rz : ∀ {v : V} {d : Dv}, Rz β M H v d → Pin (dg M a) d → Rz β (dg M a) H v d := fun r p => r.mK (M0 := dg M a) (fun b hb => by
    by_cases e : b = a
    · rw [e, cS] at hb; cases hb
    · rw [bF e] at hb; exact hb) p
  have qK : i < ρ.length := (List.getElem?_eq_some_iff.mp hi).1
  have NV : ∀ d ∈ ds, Pin (dg M a) d := fun d hd => by
    have := fr.env i (.lst ds) (by rw [List.getElem?_set_self qK])
    cases this with | lst h => exact h d hd
  have obj : ∀ b es, dg M a b = some es → ∀ d ∈ es.items, Pin (dg M a) d := fun b es e d hd => by
    rcases fr.obj b es e with q | q
    · refine (z.wf b es q d hd).mono fun c hc => ?_
      have nc : c ≠ a := fun w => by rw [w, h0] at hc; cases hc
      rw [bF nc]
      exact z.ent.dom c hc
    · exact q d hd
  have mz : Mz β (dg M a) H := by
    refine ⟨fun b o e => ?_, z.mz.tabs, z.mz.hids, fun b o e => ?_, z.mz.lams⟩
    · have nb : b ≠ a := fun q => by rw [q, cS] at e; cases e
      have e' : M b = some o := by rw [bF nb] at e; exact e
      have q := z.mz.obj b o e'
      cases o with
      | lst es => obtain ⟨vs, hv, rs⟩ := q; exact ⟨vs, hv, rs.len, fun j v d x y => rz (rs.at' j v d x y) (obj b _ e d (List.mem_of_getElem? y))⟩
      | dk ks es => obtain ⟨vs, hv, hk, rs⟩ := q; exact ⟨vs, hv, hk, rs.len, fun j v d x y => rz (rs.at' j v d x y) (obj b _ e d (List.mem_of_getElem? y))⟩
      | dt ks es => obtain ⟨vs, hv, hk, rs⟩ := q; exact ⟨vs, hv, hk, rs.len, fun j v d x y => rz (rs.at' j v d x y) (obj b _ e d (List.mem_of_getElem? y))⟩
      | c6 => exact q
    · have nb : b ≠ a := fun q => by rw [q, cS] at e; cases e
      rw [bF nb] at e
      exact z.mz.apart b o e
  refine ⟨⟨z.eP, z.ew, z.eK, z.et, z.sub, z.wf, ⟨z.ent.keep, fun b hb => ?_, fun b o m h => ?_⟩, mz, by simp [z.len], fun j d e => ?_⟩, ⟨fun b o _ h => .inl h, fun b o m h => ?_, mz⟩⟩
  · have nb : b ≠ a := fun q => by rw [q, h0] at hb; cases hb
    rw [bF nb]; exact z.ent.dom b hb
  · by_cases e : b = a
    · rw [e, cS]
    · rw [bF e]; exact z.ent.new b o m h
  · have p := fr.env j d e
    rw [List.getElem?_set] at e
    split at e
    · rename_i q
      subst q
      first
        | cases e
        | (rw [if_pos qK] at e; cases e)
      obtain ⟨v, hv, r⟩ := z.at' i _ hi
      obtain ⟨rfl, _⟩ := cF r
      obtain ⟨vs, hl, rs⟩ := z.mz.obj a _ ha
      refine ⟨_, hv, .lst ⟨cS, z.mz.apart a _ ha⟩ hl rs.len fun k v d x y => rz (rs.at' k v d x y) (NV d (List.mem_of_getElem? y))⟩
    · obtain ⟨v, hv, r⟩ := z.at' j d e
      exact ⟨v, hv, rz r p⟩
  · by_cases e : b = a
    · rw [e, cS]
    · rw [bF e]; exact m
noncomputable def Mf (i : Nat) (M0 : Mh) (p : cy) : cy := fun D ρ M => p D ρ M ∨ ∃ a ds, ρ[i]? = some (some (.ptr a)) ∧ M a = some (.lst ds) ∧ M0 a = none ∧ Hn M0 (dg M a) (ρ.set i (some (.lst ds))) ∧ p D (ρ.set i (some (.lst ds))) (dg M a)
theorem zD (i : Nat) {M1 : Mh} {st : Stmt} {p : cy} (hM : Γ.M0 = M1) (h : QS Γ X st p) : QS Γ X st (Mf i M1 p) := h.imp fun D σ H ⟨β, ρ, M, D', zr, h, r⟩ => by
  rcases h with h | ⟨a, ds, hi, ha, h0, fr, h⟩
  · exact ⟨β, ρ, M, D', zr, h, r⟩
  · obtain ⟨z2, e2⟩ := zr.freeze hi ha (by rw [hM]; exact h0) (by rw [hM]; exact fr)
    exact ⟨β, _, _, D', z2, h, r.step e2⟩
end
section
variable {X : Cx} {Γ : Gz} {β : Bz}
noncomputable def Ho (neg : Bool) : R2 := fun x y H Q => ∃ (p : Addr) (xs : List V) (d : Dt) (ds : List Dt), y = .ref p ∧ H p = some (.lst xs) ∧ c5 H x d ∧ xs.length = ds.length ∧ (∀ (i : Nat) (v : V) (t : Dt), xs[i]? = some v → ds[i]? = some t → c5 H v t) ∧
  (∀ t ∈ ds, fS t ≤ 60) ∧ Q (.bl (if neg then !(ds.any fun t => bR t d) else ds.any fun t => bR t d)) H
open Classical in
theorem Hq {pins : List (Addr × Obj)} {σ : St} {H : Hp} {s : Shared} (I : Inv X pins σ H s) {x : V} {v : Value} {d : Dt} {xs : List V} {ds : List Dt} {its : List Value} (rx : RelV x v) (hx : c5 H x d) (rv : Vals xs its) (hl : xs.length = ds.length)
    (g9 : ∀ (i : Nat) (v : V) (t : Dt), xs[i]? = some v → ds[i]? = some t → c5 H v t) (Hr : ∀ t ∈ ds, fS t ≤ 60) (hu : X.A.units + 64 < cLine) :
    ∃ e : Value → Bool, (∀ y ∈ its, SeqAt.EqAt X.A.in1 s y v (e y)) ∧ its.any e = ds.any fun t => bR t d := by
  have CG := rv.length
  let e : Value → Bool := fun y => decide (∃ (i : Nat) (t : Dt), its[i]? = some y ∧ ds[i]? = some t ∧ bR t d = true)
  have key : ∀ (i : Nat) (y : Value) (t : Dt), its[i]? = some y → ds[i]? = some t → e y = bR t d := fun i y t hi ht => by
    cases hE : bR t d with
    | true => exact decide_eq_true ⟨i, t, hi, ht, hE⟩
    | false =>
      refine decide_eq_false fun ⟨j, t', hj, NW, he⟩ => ?_
      obtain ⟨a, ha, ra⟩ := iC rv hi
      obtain ⟨b, hb, rb⟩ := iC rv hj
      have NX := ra.inj rb
      subst NX
      have := (g9 i a t ha ht).inj (g9 j a t' hb NW)
      subst this
      rw [he] at hE
      cases hE
  refine ⟨e, fun y hy => ?_, ?_⟩
  · obtain ⟨i, hi⟩ := List.mem_iff_getElem?.mp hy
    obtain ⟨a, ha, ra⟩ := iC rv hi
    have tL : i < ds.length := by
      have := (List.getElem?_eq_some_iff.mp ha).1
      omega
    have ht := List.getElem?_eq_getElem tL
    rw [key i y _ hi ht]
    refine ll I (g9 i a _ ha ht) hx ra rx ?_
    have := Hr _ (List.getElem_mem tL)
    have : X.A.in1.units = X.A.units + 1 := rfl
    omega
  · rw [Bool.eq_iff_iff, List.any_eq_true, List.any_eq_true]
    constructor
    · rintro ⟨y, hy, he⟩
      obtain ⟨i, t, _, ht, h⟩ := of_decide_eq_true he
      exact ⟨t, List.mem_of_getElem? ht, h⟩
    · rintro ⟨t, ht, h⟩
      obtain ⟨i, hi⟩ := List.mem_iff_getElem?.mp ht
      have tL : i < its.length := by
        have := (List.getElem?_eq_some_iff.mp hi).1
        omega
      exact ⟨_, List.getElem_mem tL, by rw [key i _ t (List.getElem?_eq_getElem tL) hi]; exact h⟩
theorem zE (hu : X.A.units + 64 < cLine) : OpR X (compareOp .NotIn) (Ho true) := by
  intro pins s σ H x y v u Q I rx ry h
  obtain ⟨p, xs, d, ds, rfl, hp, hx, hl, g9, Hr, q⟩ := h
  cases ry
  obtain ⟨its, rv, pl⟩ := I.lists hp
  obtain ⟨e, he, Mg⟩ := Hq I rx hx rv hl g9 Hr hu
  refine SeqAt.notIn_listAt e pl (fun y hy => he y (by simpa using hy)) ⟨.bl _, H, I, rfl, ?_⟩
  rw [show its.toArray.any e = its.any e by simp, Mg]
  exact q
noncomputable def tM (neg : Bool) : dP := fun d e M Q => match bK (now M d), (now M e) with
  | some a, .lst ds => (match fw ds with | some ts => (∀ t ∈ ts, fS t ≤ 60) ∧ Q (.bl (if neg then !(ts.any fun t => bR t a) else ts.any fun t => bR t a)) M | none => False)
  | _, _ => False
theorem Ei {neg : Bool} : m9 Γ (Ho neg) (tM neg) := fun β x y d e M H Q Q' _ _ _ m rx ry z q => by
  unfold tM at z
  split at z
  · rename_i a ds h1 h2
    split at z
    · rename_i ts NY
      have hy : c5 H y (.lst ts) := mJ m ry (by rw [h2]; simp only [bK, NY, Option.map_some])
      have hx : c5 H x a := mJ m rx h1
      cases hy with
      | lst e hl g9 => exact ⟨_, _, a, ts, rfl, e, hx, hl, g9, z.1, q _ _ _ _ (.refl m) (.bl _) z.2⟩
    · exact z.elim
  · exact z.elim
theorem BL (hu : X.A.units + 64 < cLine) : dQ Γ X (compareOp .NotIn) (tM true) := ⟨_, zE hu, Ei⟩
end
end L2
namespace L2
open PySem PySem.Spec PyProof.Rows
section
variable {κ : Type} [DecidableEq κ] {α : Type}
noncomputable def look : List κ → List α → κ → Option α
  | k :: ks, d :: ds, x => if k = x then some d else look ks ds x
  | _, _, _ => none
noncomputable def gW : List κ → List α → κ → α → List α
  | k :: ks, d :: ds, x, y => (if k = x then y else d) :: gW ks ds x y
  | _, _, _, _ => []
noncomputable def putL (ks : List κ) (k : κ) : List κ := if k ∈ ks then ks else ks ++ [k]
noncomputable def fF (ks : List κ) (ds : List α) (k : κ) (d : α) : List α := if k ∈ ks then gW ks ds k d else ds ++ [d]
theorem ik {x : κ} : ∀ {ks : List κ} {ds : List α}, ks.length = ds.length → (look ks ds x = none ↔ x ∉ ks)
  | [], [], _ => by simp [look]
  | k :: ks, d :: ds, h => by
    have ih := ik (x := x) (ks := ks) (ds := ds) (by simpa using h)
    unfold look
    by_cases e : k = x
    · simp [e]
    · rw [if_neg e, ih, List.mem_cons]
      constructor
      · rintro a (b | b)
        · exact e b.symm
        · exact a b
      · exact fun a b => a (.inr b)
  | [], _ :: _, h => by simp at h
  | _ :: _, [], h => by simp at h
theorem nV (x : κ) : ∀ (ks : List κ) (vs : List V), ir (ks.zip vs) x = look ks vs x
  | [], vs => by cases vs <;> rfl
  | _ :: _, [] => rfl
  | k :: ks, v :: vs => by
    rw [List.zip_cons_cons]
    unfold look
    by_cases e : k = x
    · rw [if_pos e]; exact kh (p := (k, v)) e
    · rw [if_neg e, ki (p := (k, v)) e]; exact nV x ks vs
theorem tN (x : κ) : ∀ (ks : List κ) (ds : List α) {d : α}, look ks ds x = some d → ∃ i : Nat, ks[i]? = some x ∧ ds[i]? = some d ∧ ∀ {β : Type} (es : List β), look ks es x = es[i]?
  | [], ds, d, h => by cases ds <;> cases h
  | _ :: _, [], d, h => by cases h
  | k :: ks, e :: ds, d, h => by
    unfold look at h
    by_cases q : k = x
    · rw [if_pos q] at h
      cases h
      refine ⟨0, by rw [q]; rfl, rfl, fun es => ?_⟩
      cases es with
      | nil => rfl
      | cons a es => unfold look; rw [if_pos q]; rfl
    · rw [if_neg q] at h
      obtain ⟨i, a, b, c⟩ := tN x ks ds h
      refine ⟨i + 1, a, b, fun es => ?_⟩
      cases es with
      | nil => rfl
      | cons y es => unfold look; rw [if_neg q, c es]; rfl
theorem lQ (x : κ) : ∀ (ks : List κ) (ds : List α) {β : Type} (es : List β), ds.length = es.length → look ks ds x = none → look ks es x = none
  | [], ds, _, es, _, _ => by cases es <;> rfl
  | _ :: _, [], _, es, h, _ => by cases es with
    | nil => rfl
    | cons _ _ => simp at h
  | k :: ks, d :: ds, _, [], h, _ => by simp at h
  | k :: ks, d :: ds, _, e :: es, h, q => by
    unfold look at q ⊢
    by_cases z : k = x
    · rw [if_pos z] at q; cases q
    · rw [if_neg z] at q ⊢
      exact lQ x ks ds es (by simpa using h) q
theorem rh (x : κ) (y : α) : ∀ (ks : List κ) (ds : List α), ks.length = ds.length → (gW ks ds x y).length = ds.length
  | [], [], _ => rfl
  | k :: ks, d :: ds, h => by unfold gW; rw [List.length_cons, rh x y ks ds (by simpa using h)]; rfl
  | [], _ :: _, h => by simp at h
  | _ :: _, [], h => by simp at h
theorem tO {ks : List κ} {ds : List α} (h : ks.length = ds.length) (k : κ) (d : α) : (putL ks k).length = (fF ks ds k d).length := by
  unfold putL fF
  split
  · rw [rh _ _ _ _ h, h]
  · simp [h]
theorem rj (x : κ) (y : V) : ∀ (ks : List κ) (vs : List V), ks.length = vs.length → (ks.zip vs).map (fun kv => if kv.1 = x then (kv.1, y) else kv) = ks.zip (gW ks vs x y)
  | [], [], _ => rfl
  | k :: ks, d :: ds, h => by
    unfold gW
    rw [List.zip_cons_cons, List.zip_cons_cons, List.map_cons, rj x y ks ds (by simpa using h)]
    congr 1
    dsimp only
    split <;> rfl
  | [], _ :: _, h => by simp at h
  | _ :: _, [], h => by simp at h
theorem vE {ks : List κ} {vs : List V} (h : ks.length = vs.length) (k : κ) (v : V) : putK (ks.zip vs) k v = (putL ks k).zip (fF ks vs k v) := by
  have e : ((ks.zip vs).any fun kv => decide (kv.1 = k)) = decide (k ∈ ks) := by
    rw [nK, nV]
    cases q : look ks vs k with
    | none => exact (decide_eq_false ((ik h).mp q)).symm
    | some x =>
      have hm : k ∈ ks := Classical.byContradiction fun z => by rw [(ik h).mpr z] at q; cases q
      rw [decide_eq_true hm]; rfl
  unfold putK putL fF
  rw [e]
  by_cases q : k ∈ ks
  · rw [if_pos (decide_eq_true q), if_pos q, if_pos q]
    exact rj k v ks vs h
  · rw [if_neg (by rw [decide_eq_false q]; exact Bool.false_ne_true), if_neg q, if_neg q, List.zip_append h]
    rfl
end
section
variable {β : Bz} {M : Mh} {H : Hp} {κ : Type} [DecidableEq κ]
theorem rk (x : κ) {v : V} {d : Dv} (r : Rz β M H v d) : ∀ (ks : List κ) (vs : List V) (ds : List Dv), aD β M H vs ds → aD β M H (gW ks vs x v) (gW ks ds x d)
  | [], _, _, _ => by
    unfold gW; exact .nil
  | _ :: _, [], [], _ => .nil
  | _ :: _, [], _ :: _, h => absurd h.len (by simp)
  | _ :: _, _ :: _, [], h => absurd h.len (by simp)
  | k :: ks, u :: vs, e :: ds, h => by
    unfold gW
    refine .cons ?_ (rk x r ks vs ds h.tail)
    split
    · exact r
    · exact h.head
theorem tP (x : κ) {v : V} {d : Dv} (r : Rz β M H v d) {ks : List κ} {vs : List V} {ds : List Dv} (h : aD β M H vs ds) : aD β M H (fF ks vs x v) (fF ks ds x d) := by
  unfold fF
  split
  · exact rk x r ks vs ds h
  · exact h.snoc r
theorem tQ {ks : List κ} {vs : List V} {ds : List Dv} (rs : aD β M H vs ds) {x : κ} {o : Option Dv} (h : look ks ds x = o) : ∃ ov, ir (ks.zip vs) x = ov ∧ ov.isSome = o.isSome ∧ ∀ r, o = some r → ∃ v, ov = some v ∧ Rz β M H v r := by
  rw [nV]
  cases o with
  | none => exact ⟨none, lQ x ks ds vs rs.len.symm h, rfl, fun r e => nomatch e⟩
  | some r =>
    obtain ⟨i, a, b, c⟩ := tN x ks ds h
    obtain ⟨v, hv, rv⟩ := rs.get b
    exact ⟨some v, (c vs).trans hv, rfl, fun r' e => by cases e; exact ⟨v, rfl, rv⟩⟩
end
noncomputable def keyD : Dv → Option Key
  | .int i => some (.inl i)
  | .str z => some (.inr z)
  | _ => none
noncomputable def iI : List Dv → Option (List Key)
  | [] => some []
  | d :: ds => match keyD d, iI ds with | some k, some ks => some (k :: ks) | _, _ => none
theorem o3 : ∀ (ns : List Int), iI (ns.map Dv.int) = some (ns.map Sum.inl)
  | [] => rfl
  | n :: ns => by rw [List.map_cons, iI, o3 ns]; rfl
noncomputable def nowK (M : Mh) : Dv → Dv
  | .ptr a => match M a with | some (.dk ks ds) => .dk ks ds | some (.dt ks ds) => .dt ks ds | _ => .ptr a
  | d => d
noncomputable def lookD (M : Mh) (d e : Dv) : Option (Option Dv) := match nowK M d with
  | .dk ks ds => (match keyD e with | some k => some (look ks ds k) | none => none)
  | .dt ks ds => (match e with | .tup es => (match iI es with | some k => some (look ks ds k) | none => none) | _ => none)
  | _ => none
section
variable {X : Cx} {Γ : Gz} {β : Bz} {K : PySem.W.Frag} {M : Mh} {H : Hp}
theorem qa {y : V} {e : Dv} {k : Key} (r : Rz β M H y e) (h : keyD e = some k) : y = kV k := by
  cases e with
  | int i => cases h; exact aK r
  | str z => cases h; exact cU r
  | _ => cases h
theorem kr : ∀ {es : List Dv} {ks : List Key} {vs : List V}, aD β M H vs es → iI es = some ks → vs = ks.map kV
  | [], ks, vs, rs, h => by
    cases h
    cases vs with
    | nil => rfl
    | cons _ _ => exact absurd rs.len (by simp)
  | e :: es, ks, [], rs, h => absurd rs.len (by simp)
  | e :: es, ks, v :: vs, rs, h => by
    unfold iI at h
    split at h
    · rename_i k rl h1 h2
      cases h
      rw [List.map_cons, qa rs.head h1, kr rs.tail h2]
    · cases h
theorem vF (m : Mz β M H) {x : V} {d : Dv} (r : Rz β M H x d) : (∀ ks ds, nowK M d = .dk ks ds → ∃ a vs, x = .ref a ∧ Rd H a (.dK (ks.zip vs)) ∧ ks.length = vs.length ∧ aD β M H vs ds) ∧
    (∀ ks ds, nowK M d = .dt ks ds → ∃ a vs, x = .ref a ∧ Rd H a (.dT (ks.zip vs)) ∧ ks.length = vs.length ∧ aD β M H vs ds) := by
  cases r with
  | dk f e hk hl h => exact ⟨fun ks ds q => (by cases q; exact ⟨_, _, rfl, e, hk, hl, h⟩), fun ks ds q => by cases q⟩
  | dt f e hk hl h => exact ⟨fun ks ds q => (by cases q), fun ks ds q => by cases q; exact ⟨_, _, rfl, e, hk, hl, h⟩⟩
  | @ptr a hs =>
    simp only [nowK]
    cases q2 : M a with
    | none => rw [q2] at hs; cases hs
    | some o =>
      have q := m.obj a o q2
      cases o with
      | dk ks ds => obtain ⟨vs, e, hk, rs⟩ := q; exact ⟨fun ks ds q => (by cases q; exact ⟨_, _, rfl, .inl e, hk, rs⟩), fun ks ds q => by cases q⟩
      | dt ks ds => obtain ⟨vs, e, hk, rs⟩ := q; exact ⟨fun ks ds q => (by cases q), fun ks ds q => by cases q; exact ⟨_, _, rfl, .inl e, hk, rs⟩⟩
      | _ => exact ⟨fun ks ds q => (by cases q), fun ks ds q => by cases q⟩
  | _ => exact ⟨fun ks ds q => (by cases q), fun ks ds q => (by cases q)⟩
theorem tR (m : Mz β M H) {x y : V} {d e : Dv} {o : Option Dv} (r : Rz β M H x d) (re : Rz β M H y e) (h : lookD M d e = some o) : ∃ a ov, x = .ref a ∧ pQ H a y ov ∧ ov.isSome = o.isSome ∧ ∀ r, o = some r → ∃ v, ov = some v ∧ Rz β M H v r := by
  unfold lookD at h
  obtain ⟨h1, h2⟩ := vF m r
  split at h
  · rename_i ks ds q
    obtain ⟨a, vs, rfl, ha, hk, rs⟩ := h1 ks ds q
    split at h
    · rename_i k tS
      rw [qa re tS]
      obtain ⟨ov, e1, e2, e3⟩ := tQ rs (Option.some.inj h)
      subst e1
      exact ⟨a, _, rfl, .inl ⟨_, k, ha, rfl, rfl⟩, e2, e3⟩
    · cases h
  · rename_i ks ds q
    obtain ⟨a, vs, rfl, ha, hk, rs⟩ := h2 ks ds q
    split at h
    · split at h
      · rename_i k tS
        obtain ⟨b, us, rfl, _, hb, ru⟩ := dm re
        rw [kr ru tS] at hb
        obtain ⟨ov, e1, e2, e3⟩ := tQ rs (Option.some.inj h)
        subst e1
        exact ⟨a, _, rfl, .inr ⟨_, k, b, ha, rfl, hb, rfl⟩, e2, e3⟩
      · cases h
    · cases h
  · cases h
noncomputable def zGetR : dP := fun d e M Q => match lookD M d e with | some (some r) => Q r M | _ => False
theorem Ej {a b : Expr} {pa pb : aJ} {pos : Pos} (hu : X.A.units + 64 < cLine) (ha : QE Γ X a pa) (hb : QE Γ X b pb) (hs : BA b) : QE Γ X (.Subscript a b pos) (zOp zGetR pa pb) :=
  (D6 (by omega) ha hb hs).imp fun σ H Q ⟨β, ρ, M, Q', zr, h, q⟩ => ⟨β, ρ, M, _, zr, h, fun d M1 v H1 x1 r1 h1 => ⟨β, ρ, M1, _, zr.step x1, h1, fun e M2 u H2 x2 r2 h2 => by
    unfold zGetR at h2
    split at h2
    · rename_i r hl
      obtain ⟨a, ov, rfl, g, _, e3⟩ := tR x2.mz (r1.ex x2) r2 hl
      obtain ⟨w, rfl, jV⟩ := e3 r rfl
      exact ⟨a, w, rfl, g, q _ _ _ _ (x1.trans x2) jV h2⟩
    · exact h2.elim⟩⟩
noncomputable def zDIn (neg : Bool) : dP := fun e d M Q => match lookD M d e with | some o => Q (.bl (if neg then !o.isSome else o.isSome)) M | none => False
noncomputable def Hs (neg : Bool) : R2 := fun y x H Q => ∃ a o, x = .ref a ∧ pQ H a y o ∧ Q (.bl (if neg then !o.isSome else o.isSome)) H
theorem Ek {neg : Bool} : m9 Γ (Hs neg) (zDIn neg) := fun β x y d e M H Q Q' _ _ _ m rx ry z q => by
  unfold zDIn at z
  split at z
  · rename_i o hl
    obtain ⟨a, ov, rfl, g, e2, _⟩ := tR m ry rx hl
    refine ⟨a, ov, rfl, g, ?_⟩
    rw [e2]
    exact q _ _ _ _ (.refl m) (.bl _) z
  · exact z.elim
theorem BM (hu : X.A.units + 64 < cLine) : dQ Γ X (compareOp .NotIn) (zDIn true) := ⟨Hs true, fun pins s σ H x y v u Q I rx ry ⟨a, o, e, g, q⟩ => by
  subst e
  cases (show u = Value.ref a from ry)
  exact D4 (by omega) I g rx fun s3 I3 => ⟨.bl (!o.isSome), H, I3, rfl, q⟩, Ek⟩
end
section
variable {β : Bz} {M : Mh} {H : Hp} {D : Addr} {o' : Mo} {u : HO}
theorem El {v : V} {d : Dv} (r : Rz (β.add D) M H v d) : Rz β (ax M D o') (upd H D u) v d := by
  have na : ∀ a, Fz (β.add D) M a → a ≠ D := fun a f z => f.2 (by rw [z]; exact List.mem_cons_self)
  have ne : ∀ a, Fz (β.add D) M a → Fz β (ax M D o') a := fun a f => ⟨by rw [aj (na a f)]; exact f.1, fun z => f.2 (List.mem_cons_of_mem _ z)⟩
  have pre : ∀ a x, Fz (β.add D) M a → H a = some x → upd H D u a = some x := fun a x f e => by rw [ae (na a f)]; exact e
  induction r with
  | int i => exact .int i
  | bl b => exact .bl b
  | ao => exact .ao
  | str z => exact .str z
  | tup m e hl h ih => exact .tup (ne _ m) (pre _ _ m e) hl ih
  | lst m e hl h ih => exact .lst (ne _ m) (pre _ _ m e) hl ih
  | dk m e hk hl h ih => exact .dk (ne _ m) (e.map fun _ h => pre _ _ m h) hk hl ih
  | dt m e hk hl h ih => exact .dt (ne _ m) (e.map fun _ h => pre _ _ m h) hk hl ih
  | bI m e m2 e2 hl h ih => exact .bI (ne _ m) (pre _ _ m e) (ne _ m2) (pre _ _ m2 e2) hl ih
  | set m e => exact .set (ne _ m) (pre _ _ m e)
  | ptr m => exact .ptr (by unfold ax; split; rfl; exact m)
  | exc m e => exact .exc (ne _ m) (pre _ _ m e)
  | bq m e => exact .bq (ne _ m) (pre _ _ m e)
  | cm m e => exact .cm (ne _ m) (pre _ _ m e)
  | cn e => exact .cn e
  | raw v => exact .raw v
theorem ku {vs : List V} {ds : List Dv} (r : aD (β.add D) M H vs ds) : aD β (ax M D o') (upd H D u) vs ds := ⟨r.len, fun i v d a b => El (r.at' i v d a b)⟩
theorem Ex.Ht {M2 : Mh} {H2 : Hp} {o : HO} (x : Ex β M H M2 H2) (hD : D ∈ β.hid) (m : M D = none) (h : H D = some o) (ho : i9 o = true) : H2 D = some o := by
  rcases x.keep D o m h with q | ⟨o', t, q⟩
  · exact q
  · rcases t with ⟨_, _, rfl, _⟩ | ⟨_, _, rfl, _⟩ | ⟨_, ob, rfl⟩
    · cases ho
    · cases ho
    · obtain ⟨w, e, n⟩ := x.mz.hids D hD
      rw [q] at e; cases e; cases n
theorem Mz.Mi (m : Mz (β.add D) M H) (hM : M D = none) (hD : D ∉ β.hid) (nt : D ∉ β.tb) (hu : ly u = true) (r : ia β (ax M D o') (upd H D u) D o') : Mz β (ax M D o') (upd H D u) := by
  obtain ⟨oD, eD, nD⟩ := m.hids D List.mem_cons_self
  refine ⟨fun a o e => ?_, fun q hq => ?_, fun a ha => (m.hids a (List.mem_cons_of_mem _ ha)).upd (.inr hu), fun a o e z => ?_, fun q hq => ?_⟩
  · by_cases ha : a = D
    · subst ha
      rw [updM_same] at e
      cases e
      exact r
    · rw [aj ha] at e
      have z := m.obj a o e
      cases o with
      | lst ds => obtain ⟨vs, z, rs⟩ := z; exact ⟨vs, by rw [ae ha]; exact z, ku rs⟩
      | dk ks ds => obtain ⟨vs, z, hk, rs⟩ := z; exact ⟨vs, by rw [ae ha]; exact z, hk, ku rs⟩
      | dt ks ds => obtain ⟨vs, z, hk, rs⟩ := z; exact ⟨vs, by rw [ae ha]; exact z, hk, ku rs⟩
      | c6 => obtain ⟨c, n, z, q⟩ := z; exact ⟨c, n, by rw [ae ha]; exact z, q⟩
  · obtain ⟨ps, e, t⟩ := m.tabs q hq
    exact ⟨ps, by rw [ae (show q ≠ D from fun z => nt (by rw [← z]; exact hq))]; exact e, t⟩
  · by_cases ha : a = D
    · exact hD (ha ▸ z)
    · rw [aj ha] at e
      exact m.apart a o e (List.mem_cons_of_mem _ z)
  · exact (m.lams q hq).keep (fun _ e => by rw [ae (fun z => by subst z; rw [eD] at e; cases e; cases nD)]; exact e) fun c _ _ e => by rw [ae (fun z => by subst z; rw [eD] at e; cases e; cases nD)]; exact e
end
section
variable {X : Cx} {pos : Pos}
noncomputable def Em (tk tv : TE) : TE := fun σ H Q => ∀ p, H p = none → tk σ (upd H p (.dT [])) fun x H1 => tv σ H1 fun y H2 => H2 p = some (.dT []) ∧ ∃ b k, x = .ref b ∧ H2 b = some (.tup (k.map kV)) ∧ Q (.ref p) (upd H2 p (.dT [(k, y)]))
theorem zF {k v : Expr} {tk tv : TE} (hu : X.A.units + 1 < cLine) (hk : PE X k tk) (hv : PE X v tv) : PE X (.Dict [some k] [v] pos) (Em tk tv) := by
  refine ⟨?_⟩
  intro pins s σ H Q I q
  have hn := I.hok.fresh (Nat.le_refl s.heap.objs.size)
  have I1 := I.laid (a := s.heap.objs.size) (o := .dT []) (h' := s.heap.push { cls := .type "dict", data := .dict #[] }) (t' := s.toks) (fun _ _ q => Heap.get?_push_of_some _ q) (Nat.le_refl _) (BD s.heap I.big)
  refine wpAny_Dict_any rfl rfl (by simp) (by simp) (pairTrees_cons_walk (thn (hk pins _ σ _ _ I1 (q _ hn)) fun w1 s2 ⟨x, H1, I2, rx, q1⟩ => thn (hv pins s2 σ H1 _ I2 q1) fun w2 s3 ⟨y, H2, I3, ry, hp, b, ks, ex, hb, q2⟩ => pairTrees_nil_walk ?_))
  subst ex
  cases (show w1 = Value.ref b from rx)
  unfold storeAll
  rw [List.forIn_cons]
  obtain ⟨z, hd, xs, rel, dd⟩ := CN I3.hok hp
  cases rel
  refine wpAny_bind (wpAny_bind (wpAny_dictSet_heap (knd := tupleKind (bO X.prog X.w)) (by show X.A.units < cLine; omega) (lx I3.hok hb) dd (fun h' vp hs => wpAny_pure ?_) (by simp)))
  dsimp only
  rw [List.forIn_nil]
  refine wpAny_pure ⟨.ref s.heap.objs.size, _, ?_, rfl, q2⟩
  obtain ⟨o, es, ep, ho, h2, h3, h4, h5, h6⟩ := vp
  have he : storedH ([] : List (List Key × Addr × Value)) ks b w2 = [(ks, b, w2)] := rfl
  rw [he] at h4 h6
  refine pR I3 (by rw [hp]; exact True.intro) hs ⟨o, ho⟩ ⟨by show 1 ≤ sizeLine; decide, hd, [(ks, b, w2)], .cons ⟨rfl, ?_, ry⟩ .nil, o, es, ep, ho, h2, h3, h4, h6⟩
  rw [ae (vU hb hp (by intro z; cases z))]
  exact hb
end
section
variable {X : Cx} {Γ : Gz} {β : Bz} {K : PySem.W.Frag}
noncomputable def zDisp1K (pk pv : aJ) : aJ := fun ρ M Q => pk ρ M fun e M1 => pv ρ M1 fun v M2 => match keyD e with | some k => ∀ a, M2 a = none → Q (.ptr a) (ax M2 a (.dk [k] [v])) | none => False
noncomputable def zDisp1T (pk pv : aJ) : aJ := fun ρ M Q => pk ρ M fun e M1 => pv ρ M1 fun v M2 => match e with | .tup es => (match iI es with | some k => ∀ a, M2 a = none → Q (.ptr a) (ax M2 a (.dt [k] [v])) | none => False) | _ => False
theorem En {M M2 : Mh} {H H2 : Hp} {D : Addr} {o : HO} {o' : Mo} {u : HO} (hD : H D = none) (x : Ex (β.add D) M (upd H D o) M2 H2) (mz : Mz β (ax M2 D o') (upd H2 D u)) : Ex β M H (ax M2 D o') (upd H2 D u) := by
  have ey : Ey M H M2 (upd H2 D u) := ((Ey.refl (M := M) (H := H)).over (o := o) hD |>.trans x.toEy).over hD
  exact ⟨⟨ey.keep, fun a h => by unfold ax; split; rfl; exact ey.dom a h, fun a w m e => by rw [aj (aT e hD)]; exact ey.new a w m e⟩, mz⟩
theorem zG {k v : Expr} {pk pv : aJ} {pos : Pos} (hu : X.A.units + 64 < cLine) (hk : QE Γ X k pk) (hv : QE Γ X v pv) : QE Γ X (.Dict [some k] [v] pos) (zDisp1T pk pv) :=
  (zF (by omega) hk hv).imp fun σ H Q ⟨β, ρ, M, Q', zr, h, q⟩ p hp => by
    have z1 := zr.enter hp (o := .dT []) rfl
    refine ⟨β.add p, ρ, M, _, z1, h, fun e M1 y H1 x1 r1 h1 => ⟨β.add p, ρ, M1, _, z1.step x1, h1, fun d M2 w H2 x2 r2 h2 => ?_⟩⟩
    have dC := x1.trans x2
    have KL : M p = none := zr.mz.free hp
    have e2 : H2 p = some (.dT []) := dC.Ht List.mem_cons_self KL ay rfl
    have KN : M2 p = none := dC.new p _ KL ay
    refine ⟨e2, ?_⟩
    split at h2
    · split at h2
      · rename_i es kk NZ
        obtain ⟨b, us, rfl, _, hb, ru⟩ := dm (r1.ex x2)
        rw [kr ru NZ] at hb
        refine ⟨b, kk, rfl, hb, ?_⟩
        refine q _ _ _ _ (En (o' := .dt [kk] [d]) (u := .dT ([kk].zip [w])) hp dC (dC.mz.Mi KN (zr.mz.fz hp).2 (zr.mz.BF hp) rfl ⟨[w], ay, rfl, ku (.cons r2 .nil)⟩)) (.ptr (by rw [updM_same]; rfl)) (h2 p KN)
      · exact h2.elim
    · exact h2.elim
noncomputable def zDPut (pd pk pv : aJ) : cy := fun D ρ M => pv ρ M fun v M1 => pd ρ M1 fun d M2 => pk ρ M2 fun e M3 => match d with
  | .ptr a => (match M3 a with
    | some (.dk ks ds) => (match keyD e with | some k => ks.length < sizeLine ∧ D.nx ρ (ax M3 a (.dk (putL ks k) (fF ks ds k v))) | none => False)
    | some (.dt ks ds) => (match e with | .tup es => (match iI es with | some k => ks.length < sizeLine ∧ D.nx ρ (ax M3 a (.dt (putL ks k) (fF ks ds k v))) | none => False) | _ => False)
    | _ => False)
  | _ => False
theorem Eo {o i value : Expr} {pd pk pv : aJ} {pos pos' : Pos} (hu : X.A.units + 64 < cLine) (ho : QE Γ X o pd) (hi : QE Γ X i pk) (hv : QE Γ X value pv) (hs : swapsWith value (some (.Subscript o i pos')) pos.line X.env = pure false := by rfl) :
    QS Γ X (.Assign [.Subscript o i pos'] value pos) (zDPut pd pk pv) := (D7 (by omega) ho hi hv hs).imp fun D σ H ⟨β, ρ, M, D', zr, h, r⟩ => ⟨β, ρ, M, _, zr, h, fun v M1 vv H1 x1 r1 h1 => ⟨β, ρ, M1, _, zr.step x1, h1, fun d M2 dv H2 x2 r2 h2 =>
      ⟨β, ρ, M2, _, (zr.step x1).step x2, h2, fun e M3 ev H3 x3 r3 h3 => by
  have z3 := ((zr.step x1).step x2).step x3
  have jb := x1.trans (x2.trans x3)
  have rv := (r1.ex x2).ex x3
  split at h3
  · rename_i a
    obtain ⟨rfl, hs⟩ := cF r2
    split at h3
    · rename_i ks ds hM
      obtain ⟨vs, ha, hk, rs⟩ := x3.mz.obj a _ hM
      split at h3
      · rename_i k tS
        obtain ⟨hl, h3⟩ := h3
        have hp : (M3 a).isSome = true := by rw [hM]; rfl
        have x4 : Ex β M3 H3 (ax M3 a (.dk (putL ks k) (fF ks ds k v))) (upd H3 a (.dK ((putL ks k).zip (fF ks vs k vv)))) := Ex.L8 x3.mz (.inl hp) (tO hk k vv) (tP k rv rs)
        refine ⟨a, _, rfl, .inl ⟨_, k, ha, qa r3 tS, by rw [List.length_zip, ← hk, Nat.min_self]; exact hl, rfl⟩, ?_⟩
        rw [vE hk]
        exact r.nx _ _ _ _ (jb.trans x4).ev (z3.step x4) h3
      · exact h3.elim
    · rename_i ks ds hM
      obtain ⟨vs, ha, hk, rs⟩ := x3.mz.obj a _ hM
      split at h3
      · split at h3
        · rename_i k tS
          obtain ⟨hl, h3⟩ := h3
          obtain ⟨b, us, rfl, _, hb, ru⟩ := dm r3
          rw [kr ru tS] at hb
          have hp : (M3 a).isSome = true := by rw [hM]; rfl
          have x4 : Ex β M3 H3 (ax M3 a (.dt (putL ks k) (fF ks ds k v))) (upd H3 a (.dT ((putL ks k).zip (fF ks vs k vv)))) := Ex.L9 x3.mz (.inl hp) (tO hk k vv) (tP k rv rs)
          refine ⟨a, _, rfl, .inr ⟨_, k, b, ha, rfl, hb, by rw [List.length_zip, ← hk, Nat.min_self]; exact hl, rfl⟩, ?_⟩
          rw [vE hk]
          exact r.nx _ _ _ _ (jb.trans x4).ev (z3.step x4) h3
        · exact h3.elim
      · exact h3.elim
    · exact h3.elim
  · exact h3.elim⟩⟩⟩
end
noncomputable def fG (X : Cx) : Str := X.env.qual ++ "<lambda>"
structure Hu (X : Cx) (params : Arguments) (body : Expr) (scope : Scope) (o : Obj) (c : Addr) (oc : Obj) (aM : List (Str × Addr)) : Prop where
  cells : ∀ n a, aM.lookup n = some a → X.env.cells.lookup n = some a
  has : ∀ n, (n, NameKind.free) ∈ scope.names → ∃ a, aM.lookup n = some a
  obj : ∃ iA, o = PySem.W.kla_obj "<lambda>" (fG X) params body scope aM ((X.mg "__name__").getD .none) c iA
  code : ∃ vs t, oc.data = .fields vs ∧ vs[1]? = some (Value.str (fG X) t)
structure Hv (X : Cx) (P : Addr) (H H2 : Hp) (f : Addr) (o : Obj) (c : Addr) (oc : Obj) : Prop where
  new : H f = none
  at' : ∃ u, H2 f = some (.bD o u)
  cd : ∃ u, H2 c = some (.bD oc u)
  lm : Lm H2 (P, fG X)
  keep : ∀ b u, H b = some u → b ≠ P → H2 b = some u
  tab : ∃ ps, H P = some (.lam ps)
noncomputable def Mj (X : Cx) (P : Addr) (params : Arguments) (body : Expr) (scope : Scope) : TE := fun _ H Q => Lm H (P, fG X) ∧ ∀ f o c oc aM H2, Hu X params body scope o c oc aM → Hv X P H H2 f o c oc → Q (.ref f) H2
noncomputable def jh (a : Addr) (o : Obj) : HO := .bD o (.ext fun h => h.get? a = some o)
theorem tT {P : Program} {w : World} {H : Hp} {h : Heap} {a : Addr} {o : Obj} (e : h.get? a = some o) : ObjOk P w H h a (jh a o) := ⟨e, e, ⟨o, e⟩, fun _ _ x k => k o x⟩
theorem zH {a b c cv : Value} {pos : Pos} (l : List Value) (h : TriplesOk l) (e : codeAmong pos (l ++ [a, b, c]) = some cv) : codeAmong pos l = some cv ∨ cv = c := by
  induction l using TriplesOk.induct with
  | case1 =>
    right
    simp only [List.nil_append] at e
    unfold codeAmong at e
    split at e
    · rename_i heq
      cases heq
      split at e
      · exact (Option.some.inj e).symm
      · simp [codeAmong] at e
    · cases e
  | case2 x tx y ty z rest ih =>
    simp only [List.cons_append, codeAmong] at e ⊢
    split at e
    · rename_i q
      rw [if_pos q]; exact .inl e
    · rename_i q
      rw [if_neg q]; exact ih h e
  | case3 l n1 n2 =>
    exfalso
    unfold TriplesOk at h
    split at h
    · exact n1 rfl
    · exact n2 _ _ _ _ _ _ rfl
    · exact h
section
variable {X : Cx} {params : Arguments} {body : Expr} {scope : Scope} {pos : Pos} {P cX : Addr}
theorem w6 {pins : List (Addr × Obj)} {s : Shared} {σ : St} {H : Hp} {h' : Heap} {o : Obj} (I : Inv X pins σ H s) (hk : ∀ b u, s.heap.get? b = some u → h'.get? b = some u) (hsz : s.heap.objs.size ≤ h'.objs.size) (hc : o.isFreed = false) (tk : Nat) :
    Inv X pins σ (upd H h'.objs.size (jh h'.objs.size o)) { s with heap := h'.push o, toks := tk } :=
  I.laid (a := h'.objs.size) (o := jh h'.objs.size o) (t' := tk) (fun b u e => Heap.get?_push_of_some _ (hk b u e)) hsz (tT (Heap.get?_push_size _ hc))
theorem w9 {pins : List (Addr × Obj)} {s : Shared} {σ : St} {H : Hp} {h' : Heap} {o oc : Obj} {c : Addr} {ps gp : Array Value} (I : Inv X pins σ H s) (hP : H P = some (.lam ps)) (hx : Heap.ExtBut P s.heap h') (o4 : s.heap.objs.size ≤ c) (aU : c < h'.objs.size) (qm : h'.get? c = some oc)
    (CY : h'.get? P = some { cls := .none, data := .fields gp }) (hc : o.isFreed = false) (tk : Nat) :
    Inv X pins σ (upd (upd (upd H P (.lam gp)) c (jh c oc)) h'.objs.size (jh h'.objs.size o)) { s with heap := h'.push o, toks := tk } := by
  have Hw : P < s.heap.objs.size := (I.hok P _ hP).lt
  have hsz : s.heap.objs.size ≤ h'.objs.size := Nat.le_of_lt (Nat.lt_of_le_of_lt o4 aU)
  have old : ∀ b, b < s.heap.objs.size → b ≠ P → upd (upd (upd H P (.lam gp)) c (jh c oc)) h'.objs.size (jh h'.objs.size o) b = H b := fun b hb n => by
    rw [ae (Nat.ne_of_lt (Nat.lt_of_lt_of_le hb hsz)), ae (Nat.ne_of_lt (Nat.lt_of_lt_of_le hb o4)), ae n]
  have PD : upd (upd (upd H P (.lam gp)) c (jh c oc)) h'.objs.size (jh h'.objs.size o) P = some (.lam gp) := by
    rw [ae (Nat.ne_of_lt (Nat.lt_of_lt_of_le Hw hsz)), ae (Nat.ne_of_lt (Nat.lt_of_lt_of_le Hw o4)), ay]
  have k : ∀ b u, b ≠ P → s.heap.get? b = some u → (h'.push o).get? b = some u := fun b u n e => Heap.get?_push_of_some _ (hx b u n e)
  have zI : ∀ b u, H b = some u → b < s.heap.objs.size := fun b u e => (I.hok b u e).lt
  have nP : ∀ b, H b = none → b ≠ P := fun b e z => by rw [z, hP] at e; cases e
  have nT : ∀ b u, H b = some u → (∀ ps, u ≠ .lam ps) → b ≠ P := fun b u e n z => by rw [z, hP] at e; cases e; exact n _ rfl
  refine I.un ⟨fun b u q n _ _ => k b u (nP b n) q, fun b u q n _ _ => ⟨u.slots, k b u (nP b n) q⟩, fun b u q n _ => by rw [old b (Heap.lt_size q) (nP b n)]; exact n, fun b u q _ => ?_, fun b xs q => by rw [old b (zI b _ q) (nT b _ q (by intro _ z; cases z))]; exact q,
    fun b u xs q => by rw [old b (zI b _ q) (nT b _ q (by intro _ z; cases z))]; exact q, fun b qs q => ⟨#[], by rw [old b (zI b _ q) (nT b _ q (by intro _ z; cases z)), q]; simp⟩⟩ fun b u q => ?_
  · by_cases e : b = P
    · subst e; exact ⟨_, Heap.get?_push_of_some _ CY⟩
    · exact ⟨u, k b u e q⟩
  · by_cases e1 : b = h'.objs.size
    · subst e1
      rw [ay] at q; cases q
      exact tT (Heap.get?_push_size _ hc)
    · rw [ae e1] at q
      by_cases e2 : b = c
      · subst e2
        rw [ay] at q; cases q
        exact tT (Heap.get?_push_of_some _ qm)
      · rw [ae e2] at q
        by_cases e3 : b = P
        · subst e3
          rw [ay] at q; cases q
          exact Heap.get?_push_of_some _ CY
        · rw [ae e3] at q
          refine (I.hok b u q).bT (fun a v hc q => k a v ?_ q) (fun a z => ?_) fun a xs z => ?_
          · rcases hc with z | z
            · rw [z]; exact e3
            · exact nT a _ z (by intro _ w; cases w)
          · rw [old a (zI a _ z) (nT a _ z (by intro _ w; cases w))]; exact z
          · rw [old a (zI a _ z) (nT a _ z (by intro _ w; cases w))]; exact z
theorem Hx (fu : X.env.code = .ref cX) (hd : PySem.W.CodeHd X.base cX P) (eA : ∃ bm ob, BMod X.base mainGlobals X.mg bm ob) (BO : defaultsOf params X.env = ([], []))
    (mx : ∀ n, (n, NameKind.free) ∈ scope.names → X.env.kindOf n = some .cell ∨ X.env.kindOf n = some .free) : PE X (.Lambda params body scope pos) (Mj X P params body scope) := by
  refine ⟨?_⟩
  intro pins s σ H Q I ⟨⟨ps, hP, k8, tK⟩, q⟩
  obtain ⟨aM, ft, cO, ez⟩ := eT (scope := scope) (env := X.env) fun n hn => I.ok.has n (mx n hn)
  have sA : s.heap.get? P = some (PySem.W.tabObj ps) := I.hok P _ hP
  obtain ⟨bm, ob, bmod⟩ := eA
  have fQ := bmod.keeps I.bk
  have N0 : mainGlobals ≠ P := fun z => by
    obtain ⟨o, es, ep, e, hd, _⟩ := fQ.ns
    rw [z, sA] at e; cases e; cases hd
  have N1 : bm ≠ P := fun z => by
    have e := fQ.obj
    have e2 := fQ.data
    rw [z, sA] at e; cases e; cases e2
  have N3 : bm ≠ mainGlobals := fun z => by
    obtain ⟨o, es, ep, e, hd, _⟩ := fQ.ns
    have e1 := fQ.obj
    have e2 := fQ.data
    rw [z, e] at e1; cases e1; rw [hd] at e2; cases e2
  have hb : s.heap.BuiltinsAt X.mg P := ⟨bm, ob, fQ.name, fQ.ne, N3, N1, fQ.obj, fQ.cls, fQ.dict, fQ.data⟩
  refine PySem.W.kla_eval BO ?_
  cases hq : codeAmong pos ps.toList with
  | some cv =>
    obtain ⟨c, oc, uc, vs, t, rfl, ec, d1, d2⟩ := tK pos cv hq
    refine PySem.W.kla_makeFunctionHit (mg := X.mg) ft I.ok.glob (I.mod.glob.keeps I.bk) fu (hd.keeps I.bk) sA k8 hq hb fun iA h' tk hk hsz => ?_
    have hf : H h'.objs.size = none := I.hok.fresh hsz
    have pre : ∀ b u, H b = some u → upd H h'.objs.size (jh h'.objs.size (PySem.W.kla_obj "<lambda>" (fG X) params body scope aM ((X.mg "__name__").getD .none) c iA)) b = some u := fun b u e => by rw [ae (aT e hf)]; exact e
    refine ⟨.ref h'.objs.size, _, w6 I hk hsz (o := PySem.W.kla_obj "<lambda>" (fG X) params body scope aM ((X.mg "__name__").getD .none) c iA) rfl tk, rfl, q _ _ c oc aM _ ⟨cO, ez, ⟨iA, rfl⟩, ⟨vs, t, d1, d2⟩⟩ ⟨hf, ⟨_, ay⟩, ⟨uc, pre _ _ ec⟩, Lm.keep ⟨ps, hP, k8, tK⟩ (fun _ e => pre _ _ e) fun _ _ _ e => pre _ _ e, fun b u e _ => pre b u e, ⟨ps, hP⟩⟩⟩
  | none =>
    refine PySem.W.kla_makeFunction (mg := X.mg) ft I.ok.glob (I.mod.glob.keeps I.bk) fu (hd.keeps I.bk) sA k8 hq N0 hb fun c iA h' tk hx o4 aU Mk CY => ?_
    obtain ⟨c2, oc, vs, t, e2, qm, d1, d2⟩ := Mk
    cases e2
    have I2 := w9 (o := PySem.W.kla_obj "<lambda>" (fG X) params body scope aM ((X.mg "__name__").getD .none) c iA) I hP hx o4 aU qm CY rfl tk
    have hsz : s.heap.objs.size ≤ h'.objs.size := Nat.le_of_lt (Nat.lt_of_le_of_lt o4 aU)
    have hf : H h'.objs.size = none := I.hok.fresh hsz
    have zJ : H c = none := I.hok.fresh o4
    have N4 : c ≠ h'.objs.size := Nat.ne_of_lt aU
    have N5 : P ≠ c := fun z => by rw [z, zJ] at hP; cases hP
    have N6 : P ≠ h'.objs.size := fun z => by rw [z, hf] at hP; cases hP
    have N7 : TriplesOk (ps ++ #[rawInt pos.line, rawInt pos.col, Value.ref c]).toList := by
      rw [Array.toList_append]
      exact TriplesOk_snoc _ _ _ _ k8
    have pre : ∀ b u, H b = some u → b ≠ P → upd (upd (upd H P (.lam (ps ++ #[rawInt pos.line, rawInt pos.col, Value.ref c]))) c (jh c oc)) h'.objs.size (jh h'.objs.size (PySem.W.kla_obj "<lambda>" (fG X) params body scope aM ((X.mg "__name__").getD .none) c iA)) b = some u := fun b u e n => by
      rw [ae (aT e hf), ae (aT e zJ), ae n]; exact e
    have KO : upd (upd (upd H P (.lam (ps ++ #[rawInt pos.line, rawInt pos.col, Value.ref c]))) c (jh c oc)) h'.objs.size (jh h'.objs.size (PySem.W.kla_obj "<lambda>" (fG X) params body scope aM ((X.mg "__name__").getD .none) c iA)) c = some (jh c oc) := by rw [ae N4, ay]
    refine ⟨.ref h'.objs.size, _, I2, rfl, q _ _ c oc aM _ ⟨cO, ez, ⟨iA, rfl⟩, ⟨vs, t, d1, d2⟩⟩ ⟨hf, ⟨_, ay⟩, ⟨_, KO⟩, ⟨_, by rw [ae N6, ae N5, ay], N7, fun p cv e => ?_⟩, pre, ⟨ps, hP⟩⟩⟩
    rw [Array.toList_append] at e
    rcases zH _ k8 e with e | e
    · obtain ⟨c3, N8, u3, N9, t3, a1, a2, a3⟩ := tK p cv e
      exact ⟨c3, N8, u3, N9, t3, a1, pre _ _ a2 (fun z => by rw [z, hP] at a2; cases a2), a3⟩
    · exact ⟨c, oc, _, vs, t, e, KO, d1, d2⟩
end
structure CZ (X : Cx) (σ : St) (b' : Heap) : Prop where
  ext : ∀ b o, X.base.get? b = some o → b'.get? b = some o
  cell : ∀ (i : Nat) (x : Str) (v : V), X.N[i]? = some x → σ[i]? = some (some v) → X.env.scope.names.lookup x = some .cell → ∃ c u, X.env.cells.lookup x = some c ∧ RelV v u ∧ b'.IsCell c (some u)
  cells : ∀ x c, X.env.cells.lookup x = some c → ∃ v, b'.IsCell c v
  inj : ∀ x y c, X.env.cells.lookup x = some c → X.env.cells.lookup y = some c → x = y
theorem Mod.ext {K : PySem.W.Frag} {mg : Str → Option Value} {b b' : Heap} (m : Mod K mg b) (k : ∀ a o, b.get? a = some o → b'.get? a = some o) : Mod K mg b' :=
  ⟨m.kin.keeps k, m.glob.keeps k, let ⟨mb, h1, h2⟩ := m.blt; ⟨mb, h1.keeps k, h2⟩, m.nolimit.keeps k⟩
section
variable {X : Cx} {pins : List (Addr × Obj)} {σ : St} {H : Hp} {s : Shared}
theorem Inv.JH (I : Inv X pins σ H s) (n8 : ∀ x, X.fn x = true) : ∃ b', CZ X σ b' ∧ pH X.prog X.w X.K X.mg b' X.A X.stack s H := by
  let C1 : Addr → Prop := fun a => ∃ x, X.env.cells.lookup x = some a
  let l : List Addr := (List.range s.heap.objs.size).filter fun a => @decide ((X.base.get? a = none) ∧ ¬ C1 a) (Classical.propDecidable _)
  have ml : ∀ a, a ∈ l ↔ a < s.heap.objs.size ∧ X.base.get? a = none ∧ ¬ C1 a := fun a => by
    show a ∈ (List.range s.heap.objs.size).filter _ ↔ _
    rw [List.mem_filter, List.mem_range]
    simp only [decide_eq_true_eq]
  have ext : ∀ b o, X.base.get? b = some o → (PySem.W.hideAll s.heap l).get? b = some o := fun b o e => PySem.W.hideAll_get l (I.bk b o e) fun z => by
    have := ((ml b).mp z).2.1
    rw [e] at this; cases this
  have cls : ∀ x c o, X.env.cells.lookup x = some c → s.heap.get? c = some o → (PySem.W.hideAll s.heap l).get? c = some o := fun x c o e ho => PySem.W.hideAll_get l ho fun z => ((ml c).mp z).2.2 ⟨x, e⟩
  have only : ∀ b o, (PySem.W.hideAll s.heap l).get? b = some o → s.heap.get? b = some o ∧ ((∃ o', X.base.get? b = some o') ∨ C1 b) := fun b o e => by
    have e' := PySem.W.of_hideAll l e
    refine ⟨e', ?_⟩
    by_cases hc : C1 b
    · exact .inr hc
    · cases q : X.base.get? b with
      | some o' => exact .inl ⟨o', rfl⟩
      | none =>
        have : (PySem.W.hideAll s.heap l).get? b = none := PySem.W.hideAll_none l ((ml b).mpr ⟨Heap.lt_size e', q, hc⟩)
        rw [e] at this; cases this
  refine ⟨PySem.W.hideAll s.heap l, ⟨ext, fun i x v h1 h2 h3 => ?_, fun x c e => ?_, I.ok.inj⟩, I.ok.frames, I.ok.mod.ext ext, fun b o e => ?_, Nat.le_of_eq (PySem.W.hideAll_size _ _), ?_, I.jT, I.hok, I.bare.1⟩
  · obtain ⟨m, hn, hl⟩ := I.loc
    obtain ⟨u, r, lk⟩ := hl i x v h1 h2 (.inr (.inl h3))
    rcases lk with ⟨hk, _⟩ | ⟨_, c, ec, o, ho, hd⟩
    · have hk : X.env.scope.names.lookup x = some .local := hk
      rw [h3] at hk; cases hk
    · exact ⟨c, u, ec, r, o, cls x c o ec ho, hd⟩
  · obtain ⟨v, o, ho, hd⟩ := I.cell x c e
    exact ⟨v, o, cls x c o e ho, hd⟩
  · obtain ⟨e', q⟩ := only b o e
    refine ⟨e', ?_⟩
    rcases q with ⟨o', q⟩ | ⟨x, q⟩
    · exact (I.bs b o' q).2
    · exact I.freeC x b q
  · have fr : ∀ L ∈ dO X.stack, (PySem.W.hideAll s.heap l).get? L = none := fun L hL => by
      cases q : (PySem.W.hideAll s.heap l).get? L with
      | none => rfl
      | some o =>
        exfalso
        obtain ⟨e', q⟩ := only L o q
        have nb := (I.stack.mem hL).1
        rcases q with ⟨o', q⟩ | ⟨x, q⟩
        · rw [nb] at q; cases q
        · rcases List.mem_cons.mp (I.eC L hL) with z | z
          · exact I.ql x L q z
          · have h1 := I.ok.cab x L (n8 x) q
            obtain ⟨_, o2, Oa, _⟩ := I.ok.funs.mem z
            exact absurd (Heap.lt_size Oa) (Nat.not_lt.mpr h1)
    have go : ∀ (st : List Env), (∀ L ∈ dO st, (PySem.W.hideAll s.heap l).get? L = none) → s.heap.FunFrames X.base st → s.heap.FunFrames (PySem.W.hideAll s.heap l) st := by
      intro st
      induction st with
      | nil => intro _ _; trivial
      | cons env r ih =>
        intro hs hl
        obtain ⟨hk, ⟨L, o, hf, hn, ho, hd⟩, hr⟩ := hl
        exact ⟨hk, ⟨L, o, hf, hs L (by unfold dO; rw [List.filterMap_cons, hf]; exact List.mem_cons_self), ho, hd⟩, ih (fun b hb => hs b (by unfold dO; rw [List.filterMap_cons, hf]; exact List.mem_cons_of_mem _ hb)) hr⟩
    exact go X.stack fr I.stack
end
section
variable {X : Cx} {CX : gd} {k : Nat} {f : Addr} {fd : FuncData} {ps : List Str} {fk : List V} {ds : List Value} {E : XK} {x : Str} {p pos : Pos} {e : Expr} {es : List Expr} {t : TA}
noncomputable def Hy (X : Cx) (sp : Heap → Sp) (fk : List V) (E : XK) (t : TA) : TE := fun σ H Q => t σ H fun vs H1 => ∀ b', CZ X σ b' → sp b' (vs ++ fk) H1 Q E
theorem BP {sp : Heap → Sp} (F : ∀ b', (∀ b o, X.base.get? b = some o → b'.get? b = some o) → FnOk X.prog X.w X.K X.mg b' CX k f fd ps (sp b')) (hr : bL k X.A) (n8 : ∀ x, X.fn x = true) (hg : Gl X x) (hm : X.mg x = some (.ref f)) (hk : PySem.W.keepIn X.K (.ref f) = true) (hb : Binds X.K fd ps ds) (hd : Vals fk ds) (hx : Passes CX X E)
    (ha : PA X (e :: es) t) (eE : (x == ("__debug__" : Str)) = false := by decide) (he : starEach (e :: es) X.env = (false, eval e X.env) :: starEach es X.env := by rfl) (bV : (backTo pos (starEach es X.env)).any (·.1) = false := by rfl) :
    PE X (.Call (.Name x p) (e :: es) [] pos) (Hy X sp fk E t) := by
  refine ⟨?_⟩
  intro pins s σ H Q I h
  refine wpAny_Call_Name_kw (my I hg hm ?_ eE)
  refine PySem.W.callWith_K (h₀ := X.base) I.ok.mod.kin hk (thn (ha pos pins s σ H _ I h) fun us s1 ⟨vs, H1, I1, r, q⟩ => ⟨I1.fZ, ?_⟩) he bV
  obtain ⟨b', B, e0⟩ := I1.JH n8
  have r2 : Vals (vs ++ fk) (us ++ ds) := r.append hd
  have hl : (us ++ ds).length = ps.length := by rw [← r2.length]; exact (F b' B.ext).len _ _ _ _ (q b' B)
  refine wpAny_call (codeAny_mono ((F b' B.ext).run X.A X.stack s1 H1 ⟨us, []⟩ (us ++ ds) (vs ++ fk) Q E hr e0 (hb s1 us I1.fZ hl) r2 (q b' B)) fun r s' hq => ?_)
  cases r with
  | error e => exact hx pins σ H1 s1 e s' I1 hq
  | ok fl =>
    cases fl with
    | ret u => exact I1.after hq
    | next => exact False.elim hq
    | brk => exact False.elim hq
    | cont => exact False.elim hq
noncomputable def Hz (f : Addr) (o : Obj) (sp : Sp) (E : XK) (i : Nat) (t : TA) : TE := fun σ H Q => σ[i]? = some (some (.ref f)) ∧ (∃ u, H f = some (.bD o u)) ∧ t σ H fun vs H1 => (∃ u, H1 f = some (.bD o u)) ∧ sp vs H1 Q E
theorem BQ {o : Obj} {sp : Sp} {i : Nat} (F : FnOk X.prog X.w X.K X.mg X.base CX k f fd ps sp) (ho : ∃ oc od fd sl, o = ⟨oc, od, .func fd, sl⟩) (hr : bL k X.A) (hN : X.N[i]? = some x) (hv : mU X.env.scope x) (hb : Binds X.K fd ps []) (hx : Passes CX X E) (ha : PA X (e :: es) t)
    (eE : (x == ("__debug__" : Str)) = false := by decide) (dE : (x == ("__classdict__" : Str)) = false := by decide) (he : starEach (e :: es) X.env = (false, eval e X.env) :: starEach es X.env := by rfl) (bV : (backTo pos (starEach es X.env)).any (·.1) = false := by rfl) :
    PE X (.Call (.Name x p) (e :: es) [] pos) (Hz f o sp E i t) := by
  refine ⟨?_⟩
  intro pins s σ H Q I ⟨hi, hf, h⟩
  obtain ⟨oc, od, CF, sl, rfl⟩ := ho
  refine wpAny_Call_Name_kw (thn ((se hN hv eE dE) pins s σ H (fun v H' => v = .ref f ∧ H' = H) I ⟨_, hi, rfl, rfl⟩) fun u s0 ⟨v, H0, I0, r0, e1, e2⟩ => ?_)
  subst e1 e2
  cases (show u = Value.ref f from r0)
  have at_ : ∀ {H' : Hp} {s' : Shared}, Inv X pins σ H' s' → (∃ u, H' f = some (.bD ⟨oc, od, .func CF, sl⟩ u)) → PySem.W.FnAt f s'.heap := fun I' ⟨u, hu⟩ => ⟨oc, od, CF, sl, (I'.hok f _ hu).1⟩
  refine PySem.W.callWith_F (at_ I0 hf) (thn (ha pos pins s0 σ H0 _ I0 h) fun us s1 ⟨vs, H1, I1, r, Ob, q⟩ => ⟨at_ I1 Ob, ?_⟩) he bV
  have q' : sp (vs ++ []) H1 Q E := by rw [List.append_nil]; exact q
  exact ym F hr hb .nil hx I1 r q'
end
noncomputable def xa (CX : gd) (P : Program) (w : World) (K : PySem.W.Frag) (mg : Str → Option Value) (base : Heap) (N : List Str) (qual : Str) (scope : Scope) (f : Addr) (cd : Value) (aM : List (Str × Addr)) (A : Around) (outer : List Env) (s : Shared) (H : Hp) (E : XK) : Cx where
  prog := P
  w := w
  K := K
  mg := mg
  base := base
  A := A.deeper (PySem.W.envX qual scope s.heap.objs.size f cd aM)
  N := N
  s₀ := s
  H₀ := H
  env := PySem.W.envX qual scope s.heap.objs.size f cd aM
  outer := outer
  stack := PySem.W.envX qual scope s.heap.objs.size f cd aM :: outer
  ex := []
  calm := true
  fn := fun _ => false
  pn := []
  xe := fun e s' => wpAny (model P w) (A.deeper (PySem.W.envX qual scope s.heap.objs.size f cd aM)) (leaving (PySem.W.envX qual scope s.heap.objs.size f cd aM) e) (fun _ cf => CX outer H s E e cf) (fun e' cf => CX outer H s E e' cf) s'
structure ky (ps fs : List Str) (sc : Scope) : Prop where
  kind : sc.kind = .function
  co : sc.isCoroutine = false
  gen : sc.isGenerator = false
  nd : (ps ++ fs).Nodup
  par : ∀ x ∈ ps, sc.names.lookup x = some .local
  fre : ∀ x ∈ fs, sc.names.lookup x = some .free
  nocell : ∀ y ∈ sc.names, y.2 ≠ .cell
structure qb (base : Heap) (fs : List Str) (aM : List (Str × Addr)) (vcs : List V) : Prop where
  inj : ∀ x y c, aM.lookup x = some c → aM.lookup y = some c → x = y
  all : ∀ x c, aM.lookup x = some c → ∃ v, base.IsCell c v
  cell : ∀ (j : Nat) (x : Str) (v : V), fs[j]? = some x → vcs[j]? = some v → ∃ c u, aM.lookup x = some c ∧ RelV v u ∧ base.IsCell c (some u)
theorem o5 {x : Str} {v : Value} : ∀ {ps : List Str} {us : List Value} {i : Nat}, ps.Nodup → ps[i]? = some x → us[i]? = some v → (ps.zip us).reverse.lookup x = some v
  | [], _, _, _, h, _ => by simp at h
  | _ :: _, [], _, _, _, h => by simp at h
  | p :: ps, u :: us, i, nd, h1, h2 => by
    rw [List.zip_cons_cons, List.reverse_cons]
    have hn := List.nodup_cons.mp nd
    cases i with
    | zero =>
      simp at h1 h2
      subst h1 h2
      rw [List.lookup_append]
      have : (ps.zip us).reverse.lookup p = none := by
        rw [List.lookup_eq_none_iff]
        intro q hq
        have yY := List.mem_reverse.mp hq
        have := (List.of_mem_zip yY).1
        have ne : p ≠ q.1 := fun z => hn.1 (by rw [z]; exact this)
        simpa using ne
      rw [this]
      simp [List.lookup]
    | succ i =>
      rw [List.lookup_append, o5 hn.2 (by simpa using h1) (by simpa using h2)]
      rfl
section
variable {CX : gd} {P : Program} {w : World} {K : PySem.W.Frag} {mg : Str → Option Value} {base : Heap} {ps fs : List Str} {qual : Str} {scope : Scope} {f c : Addr} {aM : List (Str × Addr)} {A : Around} {outer : List Env} {s : Shared} {H : Hp} {E : XK} {us : List Value} {vs vcs : List V}
theorem Ep {h1 : Heap} {tk : Nat} (S : ky ps fs scope) (C : qb base fs aM vcs) (has : ∀ n, (n, NameKind.free) ∈ scope.names → ∃ a, aM.lookup n = some a) (hd : A.handled = none) (e0 : pH P w K mg base A outer s H) (hl : vs.length = ps.length) (hc : vcs.length = fs.length) (r : Vals vs us)
    (fP : h1.Ns s.heap.objs.size (fun y => (ps.zip us).reverse.lookup y)) (hk : ∀ b o, s.heap.get? b = some o → h1.get? b = some o) :
    Inv (xa CX P w K mg base (ps ++ fs) qual scope f (.ref c) aM A outer s H E) [] (vs.map some ++ vcs.map some) H { s with heap := h1, toks := tk } := by
  have bc : ∀ x a, aM.lookup x = some a → ∃ v o, s.heap.get? a = some o ∧ o.data = .cell v ∧ H a = none := fun x a e => by
    obtain ⟨v, o, ho, hd⟩ := C.all x a e
    obtain ⟨h1, h2⟩ := e0.bs a o ho
    exact ⟨v, o, h1, hd, h2⟩
  refine ⟨⟨e0.mod, S.kind, rfl, rfl, Nat.le_refl _, C.inj, fun y hy => ?_, fun _ _ z => (nomatch z), fun _ => hd, Around.frames_deeper e0.frames, .inr ⟨rfl, rfl⟩, fun b z => absurd (show b ∈ ([] : List Addr) from z) (by simp), e0.bs, e0.bsz, fun b _ _ z => absurd (show b ∈ ([] : List Addr) from z) (by simp), fun b z => absurd (show b ∈ ([] : List Addr) from z) (by simp), e0.funs, e0.frf⟩,
    rfl, ⟨e0.bare, Nat.le_refl _⟩, Un.kept hk, ⟨_, fP, fun i y v h1 h2 h3 => ?_⟩, fun y a e => ?_, e0.hok.fresh (Nat.le_refl _), fun y a e => ?_, fun p hp => absurd (show p ∈ ([] : List (Addr × Obj)) from hp) (by simp), e0.hok.kept hk, ?_⟩
  · have hy : scope.names.lookup y = some .cell ∨ scope.names.lookup y = some .free := hy
    rcases hy with hy | hy
    · exact absurd rfl (S.nocell _ (PySem.mem_of_lookup hy))
    · exact has y (PySem.mem_of_lookup hy)
  · have h1 : (ps ++ fs)[i]? = some y := h1
    by_cases hi : i < ps.length
    · rw [List.getElem?_append_left hi] at h1
      rw [List.getElem?_append_left (by simpa [hl] using hi), List.getElem?_map] at h2
      have ha : vs[i]? = some v := by
        cases e : vs[i]? with
        | none => rw [e] at h2; cases h2
        | some a => rw [e] at h2; cases h2; rfl
      obtain ⟨u, hu, rv⟩ := r.get ha
      have nd : ps.Nodup := S.nd.sublist (List.sublist_append_left _ _)
      exact ⟨u, rv, .inl ⟨S.par y (List.mem_of_getElem? h1), o5 nd h1 hu⟩⟩
    · rw [List.getElem?_append_right (by omega)] at h1
      rw [List.getElem?_append_right (by simp only [List.length_map]; omega), List.length_map, hl, List.getElem?_map] at h2
      have ha : vcs[i - ps.length]? = some v := by
        cases e : vcs[i - ps.length]? with
        | none => rw [e] at h2; cases h2
        | some a => rw [e] at h2; cases h2; rfl
      obtain ⟨a, u, e1, rv, o, ho, hd⟩ := C.cell _ y v h1 ha
      exact ⟨u, rv, .inr ⟨.inr (S.fre y (List.mem_of_getElem? h1)), a, e1, o, hk _ _ (e0.bs a o ho).1, hd⟩⟩
  · obtain ⟨v, o, ho, hd, _⟩ := bc y a e
    exact ⟨v, o, hk _ _ ho, hd⟩
  · obtain ⟨v, o, ho, hd, hn⟩ := bc y a e
    exact hn
  · show _ = (ps ++ fs).length
    simp [hl, hc]
structure xc (params : Arguments) (body : Expr) (scope : Scope) (qual : Str) (o : Obj) (c : Addr) (oc : Obj) (aM : List (Str × Addr)) (fd : FuncData) : Prop where
  has : ∀ n, (n, NameKind.free) ∈ scope.names → ∃ a, aM.lookup n = some a
  obj : ∃ name pm iA, fd = PySem.W.kla_fn name qual params body scope aM pm (.ref c) iA ∧ o = { cls := .type "function", data := .func fd }
  code : ∃ vs t, oc.data = .fields vs ∧ vs[1]? = some (Value.str qual t)
theorem HA {params : Arguments} {body : Expr} {o oc : Obj} {fd : FuncData} {k : Nat} {sp : Sp} (L : xc params body scope qual o c oc aM fd) (S : ky ps fs scope) (C : qb base fs aM vcs) (cT : vcs.length = fs.length) (len : ∀ vs H Q E, sp vs H Q E → vs.length = ps.length)
    (at' : ∀ vs H Q E, sp vs H Q E → (∃ u, H f = some (.bD o u)) ∧ ∃ u, H c = some (.bD oc u))
    (kb : ∀ (A : Around) (outer : List Env) (s : Shared) (H : Hp) (vs : List V) (Q : VK) (E : XK), bL k (A.deeper (PySem.W.envX qual scope s.heap.objs.size f (.ref c) aM)) → sp vs H Q E →
      ∃ t, PE (xa CX P w K mg base (ps ++ fs) qual scope f (.ref c) aM A outer s H E) body t ∧ t (vs.map some ++ vcs.map some) H Q) : FnOk P w K mg base CX (k + 1) f fd ps sp := by
  obtain ⟨has, ⟨name, pm, iA, rfl, rfl⟩, ⟨Oc, ct, d1, d2⟩⟩ := L
  refine ⟨len, fun A outer s H args us vs Q E hr e0 hb r jx => ?_⟩
  have hl := len _ _ _ _ jx
  obtain ⟨⟨u1, ef⟩, ⟨u2, ec⟩⟩ := at' _ _ _ _ jx
  have Od := (e0.hok f _ ef).1
  have qm := (e0.hok c _ ec).1
  have lim : s.heap.NoLimit := e0.mod.nolimit.keeps fun b o e => (e0.bs b o e).1
  refine PySem.W.kla_callFunE hr.depth Od rfl S.co S.gen rfl ⟨c, oc, Oc, ct, rfl, qm, d1, d2⟩ (hb _ _ _ _ ?_)
  refine wpAny_newFunctionEnv S.nocell (fun y hy => S.par y.1 (List.of_mem_zip hy).1) (fun h1 fP gm => ⟨lim.fresh _ gm, ?_⟩) S.kind
  have hk : ∀ b o, s.heap.get? b = some o → h1.get? b = some o := fun b o e => gm.extBut b o (Nat.ne_of_lt (Heap.lt_size e)) (Heap.get?_push_of_some _ e)
  obtain ⟨t, ht, hq⟩ := kb A outer s H vs Q E (hr.deeper _) jx
  have I := Ep (CX := CX) (qual := qual) (f := f) (c := c) (E := E) (tk := s.toks + (ps.zip us).length) S C has hr.hd e0 hl cT r fP hk
  show codeAny _ _ (.expr body (PySem.W.envX qual scope s.heap.objs.size f (.ref c) aM)) _ _
  refine PySem.W.kla_codeExpr (wpAny_mono (ht [] _ _ H Q I hq) (fun u s' ⟨v, H', J, rv, q⟩ => ?_) fun e s' hs => hs)
  exact ⟨v, H', J.os, J.bare, J.base, J.hok, rv, q⟩
end
end L2
namespace L2
open PySem PySem.Spec PySem.W PyProof.Rows
structure C2 (K : PySem.W.Frag) (mg : Str → Option Value) (x : Str) (st : Stmt) (ps : List Str) (ds : List Value) (f : Addr) (fd : FuncData) : Prop where
  ex : ∃ (oc : Value) (od : Option Addr) (dV kV doc pm : Value) (an : Option Addr) (cw ct : Value) (jw : Array (Option Value)),
    fd = PySem.W.fnOf x x (cK st) (bB st) (ai st) dV kV doc pm an cw ct ∧ K.lookup f = some ⟨oc, od, .func fd, jw⟩ ∧ PySem.W.codeIn K cw x = true
  kp : PySem.W.keepIn K (.ref f) = true
  bd : Binds K fd ps ds
  bd0 : Binds K fd ps []
  mg : mg x = some (.ref f)
section
variable {P : Program} {w : World} {K : PySem.W.Frag} {mg : Str → Option Value} {base : Heap} {tb : cP} {x : Str} {st : Stmt} {f : Addr} {fd : FuncData} {N ps : List Str} {fk : List Value} {k : Nat} {S : cI}
theorem JI (D : C2 K mg x st ps fk f fd) (sc : aQ N ps (ai st)) (len : ∀ ds M Q E, S ds M Q E → ds.length = ps.length)
    (body : ∀ (A : Around) (outer : List Env) (s : Shared) (E : XK) (Γ : Gz) (ds : List Dv) (Q' : ZK) (E' : ZX), P = Γ.P → w = Γ.w → K = Γ.K → tb = Γ.tb → bL k (A.deeper (envOfC x (ai st) s.heap.objs.size f fd.code)) → S ds Γ.M0 Q' E' →
      ∃ p, kJ Γ (fg bt P w K mg base N x (ai st) f fd.code A outer s Γ.H0 E).kR (bB st) p ∧ p (zEndsOf Γ.M0 Q') (zstart N ds) Γ.M0) : FnOk P w K mg base bt (k + 1) f fd ps (bz P w K tb S) := by
  obtain ⟨oc, od, dV, kV, doc, pm, an, cw, ct, jw, rfl, lk, dE⟩ := D.ex
  refine wa lk dE sc (pY len) fun A outer s H vs Q E hr h => ?_
  obtain ⟨β, ds, M, Q', E', eP, ew, eK, et, m, rs, hS, q, _⟩ := h
  obtain ⟨p, hp, hq⟩ := body A outer s E ⟨β, M, H⟩ ds Q' E' eP.symm ew.symm eK.symm et.symm hr hS
  refine ⟨_, hp.kR, β, zstart N ds, M, zEndsOf M Q', nS (Γ := ⟨β, M, H⟩) m rs, hq, ?_⟩
  have fin : ∀ d M' v H', Ex β M H M' H' → Rz β M' H' v d → jQ M Q' d M' → Q v H' := fun d M' v H' x r h => mL m q x r h
  exact ⟨fun bJ M' aG H' x zr h => fin _ _ _ _ ⟨zr.ent, x.mz⟩ .ao h, fun d M' v H' x e r h => fin _ _ _ _ ⟨e, x.mz⟩ r h, fun _ _ _ _ _ _ h => h, fun _ _ _ _ _ _ h => h⟩
noncomputable def C3 (P : Program) (w : World) (K : PySem.W.Frag) (tb : cP) (f : Addr) (o : Obj) (c : Addr) (oc : Obj) (vcs : List V) (S : List Dv → cI) : Sp := fun vs H Q E => ∃ (β : Bz) (ds bW : List Dv) (M : Mh) (Q' : ZK) (E' : ZX), β.P = P ∧ β.w = w ∧ β.K = K ∧ β.tb = tb ∧ Mz β M H ∧ aD β M H vs ds ∧ Rz β M H (.ref f) (.bI f o c oc vcs bW) ∧ S bW ds M Q' E' ∧
  (∀ d M' v H', Ex β M H M' H' → Rz β M' H' v d → Q' d M' → Q v H') ∧ ∀ C M' H', Ex β M H M' H' → E' C M' → E (.ref C) none H'
theorem jF {β : Bz} {M : Mh} {H : Hp} {v : V} {f c : Addr} {o oc : Obj} {vs : List V} {ds : List Dv} (h : Rz β M H v (.bI f o c oc vs ds)) : v = .ref f ∧ (∃ u, H f = some (.bD o u)) ∧ (∃ u, H c = some (.bD oc u)) ∧ aD β M H vs ds := by
  cases h with
  | bI m e m2 e2 hl h => exact ⟨rfl, ⟨_, e⟩, ⟨_, e2⟩, hl, h⟩
theorem HB {Γ : Gz} {vs vcs : List V} {ds bW : List Dv} (m : Mz Γ.toBz Γ.M0 Γ.H0) (rs : aD Γ.toBz Γ.M0 Γ.H0 vs ds) (rc : aD Γ.toBz Γ.M0 Γ.H0 vcs bW) : Zr Γ Γ.toBz Γ.M0 (ds.map some ++ bW.map some) (vs.map some ++ vcs.map some) Γ.H0 :=
  ⟨rfl, rfl, rfl, rfl, fun _ h => h, m.wf, .refl, m, by simp [rs.len, rc.len], fun i d e => by
    rw [← List.map_append, List.getElem?_map, Option.map_eq_some_iff] at e
    obtain ⟨d2, e, e2⟩ := e
    cases e2
    obtain ⟨v, hv, r⟩ := (rs.append rc).get e
    exact ⟨v, by rw [← List.map_append, List.getElem?_map, hv]; rfl, r⟩⟩
theorem Ml {fs : List Str} {qual : Str} {scope : Scope} {params : Arguments} {body : Expr} {c : Addr} {o oc : Obj} {aM : List (Str × Addr)} {vcs : List V} {Sc : List Dv → cI} (L : xc params body scope qual o c oc aM fd) (sc : ky ps fs scope) (C : qb base fs aM vcs) (cT : vcs.length = fs.length)
    (len : ∀ bW ds M Q E, Sc bW ds M Q E → ds.length = ps.length)
    (hb : ∀ (A : Around) (outer : List Env) (s : Shared) (E : XK) (Γ : Gz) (bW ds : List Dv) (Q' : ZK) (E' : ZX), P = Γ.P → w = Γ.w → K = Γ.K → tb = Γ.tb → bL k (A.deeper (PySem.W.envX qual scope s.heap.objs.size f (.ref c) aM)) → Sc bW ds Γ.M0 Q' E' →
      ∃ p, QE Γ (xa bt P w K mg base (ps ++ fs) qual scope f (.ref c) aM A outer s Γ.H0 E).kR body p ∧ p (ds.map some ++ bW.map some) Γ.M0 (jQ Γ.M0 Q')) : FnOk P w K mg base bt (k + 1) f fd ps (C3 P w K tb f o c oc vcs Sc) := by
  refine HA L sc C cT (fun vs H Q E hS => by obtain ⟨β, ds, bW, M, Q', E', _, _, _, _, m, rs, rc, s, _⟩ := hS; exact rs.len.trans (len _ _ _ _ _ s)) (fun vs H Q E hS => by obtain ⟨β, ds, bW, M, Q', E', _, _, _, _, m, rs, rc, s, _⟩ := hS; obtain ⟨_, h1, h2, _⟩ := jF rc; exact ⟨h1, h2⟩) fun A outer s H vs Q E hr h => ?_
  obtain ⟨β, ds, bW, M, Q', E', eP, ew, eK, et, m, rs, rc, hS, q, _⟩ := h
  obtain ⟨p, hp, hq⟩ := hb A outer s E ⟨β, M, H⟩ bW ds Q' E' eP.symm ew.symm eK.symm et.symm hr hS
  obtain ⟨_, _, _, C4⟩ := jF rc
  exact ⟨_, hp.kR, β, _, M, _, HB (Γ := ⟨β, M, H⟩) m rs C4, hq, fun d M' v H' x r h => mL m q x r h⟩
end
section
variable {X : Cx} {Γ : Gz} {β : Bz} {CX : gd} {k : Nat} {f : Addr} {fd : FuncData} {ps : List Str} {E : XK} {E' : ZX} {x : Str} {p pos : Pos} {e : Expr} {es : List Expr} {za : eB} {P : Program} {w : World} {tb : cP} {K : PySem.W.Frag}
noncomputable def zCallL (f : Addr) (o : Obj) (c : Addr) (oc : Obj) (vcs : List V) (S : List Dv → cI) (E' : ZX) (i : Nat) (za : eB) : aJ := fun ρ M Q => match ρ[i]? with
  | some (some (.bI f' o' c' HC HD bW)) => (f' = f ∧ o' = o ∧ c' = c ∧ HC = oc ∧ HD = vcs) ∧ za ρ M fun ds M1 => S bW ds M1 Q E'
  | _ => False
theorem BR {c : Addr} {o oc : Obj} {vcs : List V} {S : List Dv → cI} {i : Nat} (F : FnOk X.prog X.w X.K X.mg X.base CX k f fd ps (C3 P w K tb f o c oc vcs S)) (ho : ∃ oc od fd sl, o = ⟨oc, od, .func fd, sl⟩) (hr : bL k X.A) (hN : X.N[i]? = some x) (hv : mU X.env.scope x) (hb : Binds X.K fd ps [])
    (hx : Passes CX X E) (hP : P = Γ.P) (hw : w = Γ.w) (hK : K = Γ.K) (ht : tb = Γ.tb) (hE : XR Γ E' E) (ha : QA Γ X (e :: es) za) (eE : (x == ("__debug__" : Str)) = false := by decide) (dE : (x == ("__classdict__" : Str)) = false := by decide)
    (he : starEach (e :: es) X.env = (false, eval e X.env) :: starEach es X.env := by rfl) (bV : (backTo pos (starEach es X.env)).any (·.1) = false := by rfl) : QE Γ X (.Call (.Name x p) (e :: es) [] pos) (zCallL f o c oc vcs S E' i za) :=
  (BQ F ho hr hN hv hb hx ha eE dE he bV).imp fun σ H Q ⟨β, ρ, M, Q', zr, h, q⟩ => by
    subst hP hw hK ht
    unfold zCallL at h
    split at h
    · rename_i f' o' c' HC HD bW hi
      obtain ⟨⟨rfl, rfl, rfl, rfl, rfl⟩, h⟩ := h
      obtain ⟨v, hv, r⟩ := zr.at' i _ hi
      obtain ⟨rfl, h1, _, _⟩ := jF r
      refine ⟨hv, h1, β, ρ, M, _, zr, h, fun ds M1 vs H1 x1 r1 h2 => ?_⟩
      have r' := r.ex x1
      obtain ⟨_, h3, _, _⟩ := jF r'
      exact ⟨h3, β, ds, bW, M1, Q', E', zr.eP, zr.ew, zr.eK, zr.et, x1.mz, r1, r', h2, fun d M2 v H2 x2 r2 h2 => q _ _ _ _ (x1.trans x2) r2 h2, fun C M2 H2 x2 h2 => hE C M2 H2 (oX zr.ent zr.sub zr.eP zr.ew zr.eK zr.et (x1.trans x2)) h2⟩
    · exact h.elim
end
theorem Ex.Mm {X : Cx} {P : Addr} {β : Bz} {M : Mh} {H H2 : Hp} {f c : Addr} {o oc : Obj} (m : Mz β M H) (hp : ∀ q ∈ β.tb.l, q.1 = P → q.2 = fG X) (n : Hv X P H H2 f o c oc) : Ex β M H M H2 := by
  obtain ⟨new, at', cd, lm, keep, ⟨ps, hP⟩⟩ := n
  obtain ⟨ps2, Oe, _⟩ := id lm
  have nP : ∀ b u, H b = some u → (∀ ps, u ≠ .lam ps) → b ≠ P := fun b u e q z => by rw [z, hP] at e; cases e; exact q _ rfl
  have ey : Ey M H M H2 := ⟨fun b u _ e => by
    by_cases hb : b = P
    · subst hb
      rw [hP] at e; cases e
      exact .inr ⟨_, .inr (.inl ⟨ps, ps2, rfl, rfl⟩), Oe⟩
    · exact .inl (keep b u e hb), fun _ h => h, fun _ _ h _ => h⟩
  refine ⟨ey, fun a u e => ?_, fun q hq => ?_, fun a ha => ?_, m.apart, fun q hq => ?_⟩
  · have z := m.obj a u e
    have k : ∀ u, H a = some u → L2.nL u = true → H2 a = some u := fun u h hu => keep a u h (nP a u h (by intro ps z; subst z; cases hu))
    cases u with
    | lst ds => obtain ⟨vs, z, l, r⟩ := z; exact ⟨vs, k _ z rfl, l, fun i v d a b => (r i v d a b).ey ey⟩
    | dk ks ds => obtain ⟨vs, z, hk, l, r⟩ := z; exact ⟨vs, k _ z rfl, hk, l, fun i v d a b => (r i v d a b).ey ey⟩
    | dt ks ds => obtain ⟨vs, z, hk, l, r⟩ := z; exact ⟨vs, k _ z rfl, hk, l, fun i v d a b => (r i v d a b).ey ey⟩
    | c6 => obtain ⟨c, n, z, r⟩ := z; exact ⟨c, n, k _ z rfl, r⟩
  · obtain ⟨ps, e, t⟩ := m.tabs q hq
    exact ⟨ps, keep _ _ e (nP _ _ e (by intro ps z; cases z)), t⟩
  · obtain ⟨u, e, n⟩ := m.hids a ha
    exact ⟨u, keep _ _ e (nP _ _ e (by intro ps z; subst z; cases n)), n⟩
  · by_cases hb : q.1 = P
    · have : q = (P, fG X) := Prod.ext hb (hp q hq hb)
      rw [this]; exact lm
    · exact (m.lams q hq).keep (fun _ e => keep _ _ e hb) fun c' _ _ e => keep _ _ e (nP _ _ e (by intro ps z; cases z))
section
variable {X : Cx} {Γ : Gz} {β : Bz} {CX : gd} {k : Nat} {f : Addr} {fd : FuncData} {ps : List Str} {E : XK} {E' : ZX} {x : Str} {p pos lR : Pos} {e1 e2 : Expr} {rest : List Expr} {z1 z2 : aJ} {zr : eB} {P : Program} {w : World} {tb : cP} {K : PySem.W.Frag}
noncomputable def o6 : List Nat → aA → Option (List Dv)
  | [], _ => some []
  | i :: is, ρ => match ρ[i]?, o6 is ρ with | some (some d), some ds => some (d :: ds) | _, _ => none
theorem vG {Γ : Gz} {M : Mh} {ρ : aA} {σ : St} {H : Hp} (z : Zr Γ β M ρ σ H) : ∀ {idx : List Nat} {bW : List Dv}, o6 idx ρ = some bW → ∃ vcs, aD β M H vcs bW ∧ vcs.length = idx.length ∧ ∀ (j i : Nat) (v : V), idx[j]? = some i → vcs[j]? = some v → σ[i]? = some (some v)
  | [], bW, h => by cases h; exact ⟨[], .nil, rfl, fun j i v h => by simp at h⟩
  | i :: is, bW, h => by
    unfold o6 at h
    split at h
    · rename_i d ds h1 h2
      cases h
      obtain ⟨v, hv, r⟩ := z.at' i d h1
      obtain ⟨vcs, rs, l, q⟩ := vG z h2
      refine ⟨v :: vcs, .cons r rs, by simp [l], fun j i' u a b => ?_⟩
      cases j with
      | zero => simp at a b; subst a b; exact hv
      | succ j => exact q j i' u (by simpa using a) (by simpa using b)
    · cases h
noncomputable def tU (X : Cx) (params : Arguments) (body : Expr) (scope : Scope) (idx : List Nat) (fs : List Str) (S : Heap → cI) (dd : List Dv) (E' : ZX) (z1 z2 : aJ) (zr : eB) : aJ := fun ρ M Q => z1 ρ M fun d1 M1 => z2 ρ M1 fun d2 M2 => match o6 idx ρ with
  | some bW => ∀ f o c oc aM vcs, vcs.length = idx.length → Hu X params body scope o c oc aM → zr ρ M2 fun es M3 => ∀ b', (∀ b o, X.base.get? b = some o → b'.get? b = some o) → qb b' fs aM vcs → S b' (d1 :: d2 :: .bI f o c oc vcs bW :: es ++ dd) M3 Q E'
  | none => False
theorem xf {params : Arguments} {body : Expr} {scope : Scope} {idx : List Nat} {fs : List Str} {S : Heap → cI} {fk : List V} {dd : List Dv} {ds : List Value} {PT cX : Addr} (fu : X.env.code = .ref cX) (dE : PySem.W.CodeHd X.base cX PT) (eA : ∃ bm ob, BMod X.base mainGlobals X.mg bm ob) (BO : defaultsOf params X.env = ([], []))
    (mx : ∀ n, (n, NameKind.free) ∈ scope.names → X.env.kindOf n = some .cell ∨ X.env.kindOf n = some .free) (Of : ∀ (j : Nat) (n : Str), fs[j]? = some n → (n, NameKind.free) ∈ scope.names ∧ X.env.scope.names.lookup n = some .cell ∧ ∃ i, idx[j]? = some i ∧ X.N[i]? = some n)
    (qK : (PT, fG X) ∈ Γ.tb.l) (HE : ∀ q ∈ Γ.tb.l, q.1 = PT → q.2 = fG X)
    (F : ∀ b', (∀ b o, X.base.get? b = some o → b'.get? b = some o) → FnOk X.prog X.w X.K X.mg b' CX k f fd ps (bz P w K tb (S b'))) (hr : bL k X.A) (n8 : ∀ x, X.fn x = true) (hg : Gl X x) (hm : X.mg x = some (.ref f)) (hk : PySem.W.keepIn X.K (.ref f) = true) (hb : Binds X.K fd ps ds) (hd : Vals fk ds) (Og : ∀ β M H, aD β M H fk dd)
    (hx : Passes CX X E) (hP : P = Γ.P) (hw : w = Γ.w) (hK : K = Γ.K) (ht : tb = Γ.tb) (hE : XR Γ E' E) (h1 : QE Γ X e1 z1) (h2 : QE Γ X e2 z2) (h3 : QA Γ X rest zr) (eE : (x == ("__debug__" : Str)) = false := by decide)
    (s1 : starEach (e1 :: e2 :: .Lambda params body scope lR :: rest) X.env = (false, eval e1 X.env) :: starEach (e2 :: .Lambda params body scope lR :: rest) X.env := by rfl)
    (s2 : starEach (e2 :: .Lambda params body scope lR :: rest) X.env = (false, eval e2 X.env) :: starEach (.Lambda params body scope lR :: rest) X.env := by rfl)
    (s3 : starEach (.Lambda params body scope lR :: rest) X.env = (false, eval (.Lambda params body scope lR) X.env) :: starEach rest X.env := by rfl)
    (bV : (backTo pos (starEach (e2 :: .Lambda params body scope lR :: rest) X.env)).any (·.1) = false := by rfl) :
    QE Γ X (.Call (.Name x p) (e1 :: e2 :: .Lambda params body scope lR :: rest) [] pos) (tU X params body scope idx fs S dd E' z1 z2 zr) :=
  (BP F hr n8 hg hm hk hb hd hx (mB h1 (mB h2 (mB (Hx fu dE eA BO mx) h3 s3) s2) s1) eE s1 bV).imp fun σ H Q ⟨β, ρ, M, Q', ji, h, q⟩ => by
    subst hP hw hK ht
    refine ⟨β, ρ, M, _, ji, h, fun d1 M1 v1 H1 x1 r1 h1 => ⟨β, ρ, M1, _, ji.step x1, h1, fun d2 M2 v2 H2 x2 r2 h2 => ?_⟩⟩
    have CT := (ji.step x1).step x2
    have Mp : (PT, fG X) ∈ β.tb.l := by rw [ji.et]; exact qK
    have Mq : ∀ q ∈ β.tb.l, q.1 = PT → q.2 = fG X := by rw [ji.et]; exact HE
    refine ⟨x2.mz.lams _ Mp, fun lf o c oc aM H3 hO hN => ?_⟩
    split at h2
    · rename_i bW JK
      obtain ⟨vcs, C4, lcs, at'⟩ := vG CT JK
      have x3 := Ex.Mm x2.mz Mq hN
      have G7 := CT.step x3
      refine ⟨β, ρ, M2, _, G7, h2 lf o c oc aM vcs lcs hO, fun es M4 ws H4 x4 r4 h4 => ?_⟩
      intro b' B
      obtain ⟨u1, a1⟩ := hN.at'
      obtain ⟨u2, a2⟩ := hN.cd
      have KP := x3.mz
      have Oh : Fz β M2 lf := x2.mz.fz hN.new
      have Mr : ∀ a o u, H3 a = some (.bD o u) → a ∉ β.hid := fun a o u e z => by
        obtain ⟨w, e', n⟩ := KP.hids a z
        rw [e] at e'; cases e'; cases n
      have Ms : Rz β M2 H3 (.ref lf) (.bI lf o c oc vcs bW) := .bI Oh a1 ⟨KP.j0 a2 rfl, Mr _ _ _ a2⟩ a2 C4.len fun i v d a b => (C4.at' i v d a b).ex x3
      have Mt : qb b' fs aM vcs := by
        refine ⟨fun n m a e e' => B.inj n m a (hO.cells n a e) (hO.cells m a e'), fun n a e => B.cells n a (hO.cells n a e), fun j n v hj hv => ?_⟩
        obtain ⟨fr, kc, i, hi, hn⟩ := Of j n hj
        obtain ⟨a, u, e1, e2, e3⟩ := B.cell i n v hn (at' j i v hi hv) kc
        obtain ⟨a', e'⟩ := hO.has n fr
        have := (hO.cells n a' e').symm.trans e1
        cases this
        exact ⟨a, u, e', e2, e3⟩
      have kL := x2.trans (x3.trans x4)
      have Oi := x3.trans x4
      refine ⟨β, _, M4, Q', E', ji.eP, ji.ew, ji.eK, ji.et, x4.mz, ?_, h4 b' B.ext Mt, fun d M5 v H5 x5 r5 h5 => q _ _ _ _ (x1.trans (kL.trans x5)) r5 h5, fun C M5 H5 x5 h5 => hE C M5 H5 (oX ji.ent ji.sub ji.eP ji.ew ji.eK ji.et (x1.trans (kL.trans x5))) h5⟩
      have rs : aD β M4 H4 (v1 :: v2 :: .ref lf :: ws ++ fk) (d1 :: d2 :: .bI lf o c oc vcs bW :: es ++ dd) := .cons (r1.ex kL) (.cons (r2.ex Oi) (.cons (Ms.ex x4) (r4.append (Og _ _ _))))
      exact rs
    · exact h2.elim
end
end L2
namespace L2
open PySem PySem.Spec PyProof.Rows
theorem zK {P : Program} {w : World} {K : PySem.W.Frag} {mg mb : Str → Option Value} {CX : gd} {k : Nat} {fa a : Addr} {fd : FuncData} {x : Str} {sp : Sp} {az : Shared} {vs : List Value} {ns : List Int} {tabs lts : List Addr}
    (KX : K.In az.heap) (fP : az.heap.Ns mainGlobals mg) (hb : az.heap.Ns builtinsNs mb) (Oj : ∀ x : Str, x ≠ "__name__" → mb x = bootBuiltins x) (HF : az.heap.NoLimit) (hg : az.gens = #[])
    (ha : az.heap.get? a = some { cls := .type "list", data := .seq vs.toArray }) (hi : IntsAre vs ns) (hl : ns.length ≤ sizeLine) (hr : bL k callerA)
    (iZ : ∀ p ∈ tabs ++ lts, az.heap.get? p = some (PySem.W.tabObj #[]) ∧ isCodeTable az.heap p) (Mu : ∀ p ∈ tabs, p ∉ lts) (zL : PySem.W.kb_classed K = true) (eA : ∃ bm ob, BMod az.heap mainGlobals mg bm ob)
    (F : ∀ base : Heap, K.In base → base.Ns mainGlobals mg → (∃ bm ob, BMod base mainGlobals mg bm ob) → (∀ c p, PySem.W.CodeHd az.heap c p → PySem.W.CodeHd base c p) → FnOk P w K mg base CX k fa fd [x] sp)
    (JL : ∀ (s : Shared) (u : Value), BindsTo s fd ⟨[u], []⟩ [(x, u)])
    (jx : ∀ H : Hp, (∀ p ∈ tabs, Tb p H) → (∀ p ∈ lts, H p = some (.lam #[])) → bH K H a (ns.map V.int) → sp [.ref a] H (fun v H' => v = .bl true ∧ ∀ p ∈ lts, ∃ ps, H' p = some (.lam ps)) fun _ _ _ => False)
    (HG : ∀ H e s', CX [] H az (fun _ _ _ => False) e s' → False) :
    codeAny (model P w) callerA (.call (.ref fa) ⟨[.ref a], []⟩) (fun r s' => r = .ok (.ret (.bool true)) ∧ OldK az.heap s'.heap ∧ s'.os = az.os ∧ AllBare s'.gens) az := by
  have rv := qC hi
  have Mv := hi.length
  have g9 : a ∉ tabs ++ lts := fun z => by
    have e := (iZ a z).1
    rw [ha] at e
    cases e
  have core : ∀ H : Hp, (∀ b u, H b = some u → (b = a ∧ ∃ o xs, u = .bD o (.lst xs)) ∨ (b ∈ tabs ++ lts ∧ (u = .cC #[] ∧ b ∈ tabs ∨ u = .lam #[] ∧ b ∈ lts))) → (∀ p ∈ tabs, H p = some (.cC #[])) → (∀ p ∈ lts, H p = some (.lam #[])) → bH K H a (ns.map V.int) → cp P w H az.heap → (H a ≠ none → K.lookup a = none) →
      codeAny (model P w) callerA (.call (.ref fa) ⟨[.ref a], []⟩) (fun r s' => r = .ok (.ret (.bool true)) ∧ OldK az.heap s'.heap ∧ s'.os = az.os ∧ AllBare s'.gens) az := by
    intro H hO Ol Om hS hok hK
    have mO : ∀ {b : Addr} {o : Obj}, az.heap.get? b = some o → H b = none → (iT az.heap H).get? b = some o := fun e n => AD e n
    have no : ∀ {b : Addr} {o : Obj}, az.heap.get? b = some o → (∀ n, o.data ≠ .seq vs.toArray n) → o ≠ PySem.W.tabObj #[] → H b = none := fun {b o} e d1 d2 => by
      cases q : H b with
      | none => rfl
      | some u =>
        rcases hO b u q with ⟨e', _⟩ | ⟨gF, _⟩
        · subst e'
          rw [ha] at e; cases e
          exact absurd rfl (d1 _)
        · rw [(iZ b gF).1] at e
          exact absurd (Option.some.inj e).symm d2
    have Oo : ∀ {b : Addr} {o : Obj} {es : Array DictEntry} {ep : Nat}, az.heap.get? b = some o → o.data = .dict es ep → H b = none := fun {b o es ep} e d => no e (fun n z => by rw [d] at z; cases z) fun z => by rw [z] at d; cases d
    have zM : ∀ {b : Addr} {m : Str → Option Value}, az.heap.Ns b m → (iT az.heap H).Ns b m := fun {b m} hS => by obtain ⟨o, es, ep, e, d, r⟩ := hS; exact ⟨o, es, ep, mO e (Oo e d), d, r⟩
    have KQ : K.In (iT az.heap H) := fun b o e => mO (KX b o e) (by
      cases q : H b with
      | none => rfl
      | some u =>
        rcases hO b u q with ⟨e', _⟩ | ⟨gF, _⟩
        · subst e'
          rw [hK (by rw [q]; simp)] at e; cases e
        · have e1 := KX b o e
          have e2 := (iZ b gF).1
          rw [e1] at e2
          have e3 : o = PySem.W.tabObj #[] := Option.some.inj e2
          have q2 := List.all_eq_true.mp zL (b, o) (PySem.W.kb_mem e)
          simp only [Bool.or_eq_true, decide_eq_true_eq, beq_iff_eq] at q2
          rcases q2 with (q2 | q2) | q2
          · rw [e3] at q2; exact absurd rfl q2
          · obtain ⟨mc, ⟨oc, es, ep, ho, hd, _⟩, _⟩ := HF
            rw [← q2, e1] at ho
            cases ho
            rw [e3] at hd; cases hd
          · obtain ⟨oc, es, ep, ho, hd, _⟩ := id fP
            rw [← q2, e1] at ho
            cases ho
            rw [e3] at hd; cases hd)
    have hM : Mod K mg (iT az.heap H) := ⟨KQ, zM fP, ⟨mb, zM hb, Oj⟩, let ⟨mc, h1, h2⟩ := HF; ⟨mc, zM h1, h2⟩⟩
    have hB : ∃ bm ob, BMod (iT az.heap H) mainGlobals mg bm ob := by
      obtain ⟨bm, ob, B⟩ := eA
      exact ⟨bm, ob, zM B.ns, B.name, B.ne, mO B.obj (no B.obj (fun n z => by rw [B.data] at z; cases z) fun z => by have := B.data; rw [z] at this; cases this), B.cls, B.dict, B.data⟩
    have hC : ∀ c p, PySem.W.CodeHd az.heap c p → PySem.W.CodeHd (iT az.heap H) c p := fun c p ⟨o, zg, file, tf, flags, tg, Oq, text, tt, e1, e2, e3, r⟩ =>
      ⟨o, zg, file, tf, flags, tg, Oq, text, tt, mO e1 (no e1 (fun n z => by rw [e3] at z; cases z) fun z => by rw [z] at e2; cases e2), e2, e3, r⟩
    have e0 : pH P w K mg (iT az.heap H) callerA [] az H := ⟨rfl, hM, fun b o e => Dq e, Nat.le_of_eq (xT _ _), trivial, fun b hb => absurd (show b ∈ ([] : List Addr) from hb) (by simp), hok, .of_eq hg⟩
    refine codeAny_mono ((F _ KQ (zM fP) hB hC).run callerA [] az H ⟨[.ref a], []⟩ [.ref a] [.ref a] _ _ hr e0 (JL az (.ref a)) (.cons rfl .nil) (jx H (fun p hp => ⟨#[], Ol p hp, trivial⟩) Om hS)) fun r s' h => ?_
    cases r with
    | error e => exact (HG H e s' h).elim
    | ok fl =>
      cases fl with
      | next => exact False.elim h
      | brk => exact False.elim h
      | cont => exact False.elim h
      | ret u =>
        obtain ⟨v, H', os, bare, un, BU, r', q⟩ := h
        obtain ⟨q', qL⟩ := q
        subst q'
        obtain rfl : u = Value.bool true := r'
        have all : ∀ b o, az.heap.get? b = some o → asItWas az.heap s'.heap b o ∧ ∃ o', s'.heap.get? b = some o' := fun b o e => by
          cases q : H b with
          | none =>
            have := un.keep b o e q (by intro z; exact absurd (show b ∈ ([] : List Addr) from z) (by simp)) (by simp)
            exact ⟨.inl this, _, this⟩
          | some u =>
            rcases hO b u q with ⟨_, ob, xs, z⟩ | ⟨gF, z⟩
            · subst z
              have z2 := un.frzs b ob _ q
              obtain ⟨e1, _⟩ := hok b _ q
              obtain ⟨e2, _⟩ := BU b _ z2
              rw [e] at e1; cases e1
              exact ⟨.inl e2, _, e2⟩
            · have e2 : ∃ more, s'.heap.get? b = some { cls := .none, data := .fields (#[] ++ more) } := by
                rcases z with ⟨z, _⟩ | ⟨z, vh⟩
                · subst z
                  obtain ⟨more, z2⟩ := un.tbls b #[] q
                  exact ⟨more, BU b _ z2⟩
                · obtain ⟨ps, z2⟩ := qL b vh
                  refine ⟨ps, ?_⟩
                  have := BU b _ z2
                  rw [show (#[] : Array Value) ++ ps = ps by simp]
                  exact this
              obtain ⟨more, e2⟩ := e2
              have e1 := (iZ b gF).1
              rw [e] at e1
              obtain rfl : o = PySem.W.tabObj #[] := Option.some.inj e1
              exact ⟨.inr (.inl ⟨(iZ b gF).2, rfl, #[], more, rfl, e2⟩), _, e2⟩
        exact ⟨rfl, ⟨fun b o e => (all b o e).1, fun b o e => (all b o e).2⟩, os, bare.1⟩
  have HH : ∀ p ∈ tabs ++ lts, ∀ H : Hp, ∀ u, (u = .cC #[] ∧ p ∈ tabs ∨ u = .lam #[] ∧ p ∈ lts) → ObjOk P w H az.heap p u := fun p hp H u hu => by
    rcases hu with ⟨rfl, _⟩ | ⟨rfl, _⟩ <;> exact (iZ p hp).1
  let T : Hp := fun b => if b ∈ lts then some (.lam #[]) else if b ∈ tabs then some (.cC #[]) else none
  have T1 : ∀ b u, T b = some u → b ∈ tabs ++ lts ∧ (u = .cC #[] ∧ b ∈ tabs ∨ u = .lam #[] ∧ b ∈ lts) := fun b u z => by
    by_cases h1 : b ∈ lts
    · have z' := (show T b = _ from if_pos h1).symm.trans z
      cases z'
      exact ⟨List.mem_append_right _ h1, .inr ⟨rfl, h1⟩⟩
    · by_cases h2 : b ∈ tabs
      · have z' := (show T b = _ from (if_neg h1).trans (if_pos h2)).symm.trans z
        cases z'
        exact ⟨List.mem_append_left _ h2, .inl ⟨rfl, h2⟩⟩
      · have z' := (show T b = _ from (if_neg h1).trans (if_neg h2)).symm.trans z
        cases z'
  have T2 : ∀ p ∈ tabs, T p = some (.cC #[]) := fun p hp => (if_neg (Mu p hp)).trans (if_pos hp)
  have T3 : ∀ p ∈ lts, T p = some (.lam #[]) := fun p hp => if_pos hp
  have Ta : T a = none := (if_neg fun z => g9 (List.mem_append_right _ z)).trans (if_neg fun z => g9 (List.mem_append_left _ z))
  cases hk : K.lookup a with
  | some o =>
    have e := KX a o hk
    rw [ha] at e
    cases e
    exact core T (fun b u z => .inr (T1 b u z)) T2 T3 (.inr ⟨_, vs.toArray, _, hk, rfl, rfl, rfl, by rw [List.size_toArray, Mv]; exact hl, by simpa using rv⟩) (fun b u z => HH b (T1 b u z).1 _ u (T1 b u z).2) fun z => absurd Ta z
  | none =>
    have na : ∀ p ∈ tabs ++ lts, p ≠ a := fun p hp z => g9 (z ▸ hp)
    refine core (upd T a (.bD { cls := .type "list", data := .seq vs.toArray } (.lst (ns.map V.int)))) (fun b u z => ?_) (fun p hp => by rw [ae (na p (List.mem_append_left _ hp))]; exact T2 p hp) (fun p hp => by rw [ae (na p (List.mem_append_right _ hp))]; exact T3 p hp) (.inl (.inr ⟨_, ay⟩)) (fun b u z => ?_) fun _ => hk
    · by_cases hb : b = a
      · subst hb
        rw [ay] at z
        cases z
        exact .inl ⟨rfl, _, _, rfl⟩
      · rw [ae hb] at z
        exact .inr (T1 b u z)
    · by_cases hb : b = a
      · subst hb
        rw [ay] at z
        cases z
        exact ⟨ha, by rw [List.length_map]; exact hl, vs, _, rv, ha⟩
      · rw [ae hb] at z
        exact HH b (T1 b u z).1 _ u (T1 b u z).2
noncomputable def rW (K : PySem.W.Frag) (x : Str) : Option Addr := match PySem.W.nsIn K mainGlobals x with
  | some (some (.ref f)) => (match K.lookup f with
    | some ⟨_, _, .func fd, _⟩ => (match fd.code with
      | .ref c => (match K.lookup c with
        | some ⟨_, _, .fields vs, _⟩ => (match vs[11]? with | some (Value.ref p) => some p | _ => none)
        | _ => none)
      | _ => none)
    | _ => none)
  | _ => none
noncomputable abbrev TabOf (mg : Str → Option Value) (h : Heap) (y : Str) (p : Addr) : Prop := ∃ f o fd c, mg y = some (.ref f) ∧ h.get? f = some o ∧ o.data = .func fd ∧ fd.code = .ref c ∧ PySem.W.CodeHd h c p
theorem tV {K : PySem.W.Frag} {mg : Str → Option Value} {h : Heap} {y : Str} {p q : Addr} (X : K.In h) (G : h.Ns mainGlobals mg) (t : TabOf mg h y p) (e : rW K y = some q) : p = q := by
  obtain ⟨f, o, fd, c, e1, e2, e3, e4, oc, vs, _, _, _, _, _, _, _, g1, _, g3, g4, _⟩ := t
  unfold rW at e
  split at e
  · rename_i f' fP
    have := (PySem.W.mg_of X G fP).symm.trans e1
    cases this
    split at e
    · rename_i HC PF CF J4 HI
      have := (X _ _ HI).symm.trans e2
      cases this
      cases e3
      rw [e4] at e
      dsimp only at e
      split at e
      · rename_i a1 a2 zg a3 Ot
        have := (X _ _ Ot).symm.trans g1
        cases this
        cases g3
        rw [g4] at e
        cases e
        rfl
      · cases e
    · cases e
  · cases e
noncomputable def qd (K : PySem.W.Frag) (gs ls : List Str) : Bool := gs.all fun x => ls.all fun y => match rW K x, rW K y with | some p, some q => decide (p ≠ q) | _, _ => false
theorem vH {α β : Type} {F : α → β → Prop} {l : List α} {m : List β} (h : Paired F l m) {b : β} (hb : b ∈ m) : ∃ a ∈ l, F a b := by
  induction h with
  | nil => simp at hb
  | cons x t ih =>
    rcases List.mem_cons.mp hb with e | e
    · subst e; exact ⟨_, List.mem_cons_self, x⟩
    · obtain ⟨a, ha, q⟩ := ih e
      exact ⟨a, List.mem_cons_of_mem _ ha, q⟩
theorem BV {K : PySem.W.Frag} {mg : Str → Option Value} {h : Heap} {gs ls : List Str} {tabs lts : List Addr} (X : K.In h) (G : h.Ns mainGlobals mg) (d : qd K gs ls = true) (t1 : Paired (TabOf mg h) gs tabs) (t2 : Paired (TabOf mg h) ls lts) : ∀ p ∈ tabs, p ∉ lts := fun p hp hq => by
  obtain ⟨x, hx, tx⟩ := vH t1 hp
  obtain ⟨y, hy, ty⟩ := vH t2 hq
  have := List.all_eq_true.mp (List.all_eq_true.mp d x hx) y hy
  split at this
  · rename_i p' q' e1 e2
    have a := tV X G tx e1
    have b := tV X G ty e2
    exact (of_decide_eq_true this) (a.symm.trans b)
  · cases this
theorem BW {l : PySem.W.OpenLaw} {n k : Nat} {q : Program} {loose : List Str} {XP : (Str → Option Value) → Heap → Prop} {YP : World → Heap → Prop} {d : DefRec} {K : Params → PySem.W.Frag} {CX : gd} {sp : PySem.W.Frag → List Addr → List Addr → Sp} {x : Str} {nms zN : List Str}
    (hn : l.most = some n) (Ou : n ≤ sizeLine) (yu : d.params.defaults = []) (hr : bL k callerA) (zL : ∀ w : World, PySem.W.kb_classed (K w.params) = true)
    (C5 : ∀ y ∈ nms ++ zN, ∃ r ∈ recsOf q, r.name = y) (m6 : ∀ w : World, qd (K w.params) nms zN = true)
    (hY : ∀ (w : World) (h : Heap), YP w h → (K w.params).In h)
    (F : ∀ (w : World) (mg : Str → Option Value) (fa : Addr) (h : Heap) (tabs lts : List Addr), (K w.params).In h → h.Ns mainGlobals mg → mg d.name = some (.ref fa) →
      Paired (TabOf mg h) nms tabs → Paired (TabOf mg h) zN lts →
      ∃ fd : FuncData, (∀ (s : Shared) (u : Value), BindsTo s fd ⟨[u], []⟩ [(x, u)]) ∧
        ∀ base : Heap, (K w.params).In base → base.Ns mainGlobals mg → (∃ bm ob, BMod base mainGlobals mg bm ob) → (∀ c p, PySem.W.CodeHd h c p → PySem.W.CodeHd base c p) → FnOk l.prog w (K w.params) mg base CX k fa fd [x] (sp (K w.params) tabs lts))
    (jx : ∀ (K : PySem.W.Frag) (tabs lts : List Addr) (H : Hp) (a : Addr) (ns : List Int), lts.length = zN.length → ns.length ≤ n → (∀ p ∈ tabs, Tb p H) → (∀ p ∈ lts, H p = some (.lam #[])) → bH K H a (ns.map V.int) → sp K tabs lts [.ref a] H (fun v H' => v = .bl true ∧ ∀ p ∈ lts, ∃ ps, H' p = some (.lam ps)) fun _ _ _ => False)
    (HG : ∀ (H : Hp) (s : Shared) (e : Value) (s' : Shared), CX [] H s (fun _ _ _ => False) e s' → False) :
    PySem.W.WalkO q loose XP YP l.row.toRowW d [] (fun f vs => PySem.call f vs) := by
  refine Kd.uG hn yu fun w s₀ az mg mb fa o pm cd doc a vs ns G Y ho hd dE yw A8 hints hlen hg => ?_
  have KX := hY w _ Y
  have tb : ∀ nms : List Str, (∀ y ∈ nms, ∃ r ∈ recsOf q, r.name = y) → ∃ tabs, Paired (TabOf mg az.heap) nms tabs ∧ ∀ p ∈ tabs, az.heap.get? p = some (PySem.W.tabObj #[]) ∧ isCodeTable az.heap p := by
    intro nms
    induction nms with
    | nil => intro _; exact ⟨[], .nil, fun p hp => absurd hp (by simp)⟩
    | cons y r ih =>
      intro hm
      obtain ⟨tabs, h1, h2⟩ := ih fun z hz => hm z (List.mem_cons_of_mem _ hz)
      obtain ⟨rr, Ov, e⟩ := hm y List.mem_cons_self
      obtain ⟨f, o', fd, c, p, a1, a2, a3, a4, a5, a6⟩ := G.T.tab rr Ov
      rw [e] at a1
      refine ⟨p :: tabs, .cons ⟨f, o', fd, c, a1, a2, a3, a4, .of a5 a6⟩ h1, fun z hz => ?_⟩
      rcases List.mem_cons.mp hz with rfl | hz
      · exact ⟨a6.2, a6.isCodeTable⟩
      · exact h2 z hz
  obtain ⟨tabs, t1, t2⟩ := tb nms fun y hy => C5 y (List.mem_append_left _ hy)
  obtain ⟨lts, u1, u2⟩ := tb zN fun y hy => C5 y (List.mem_append_right _ hy)
  obtain ⟨fd, hb, hF⟩ := F w mg fa _ tabs lts KX G.T.g yw t1 u1
  exact zK (lts := lts) KX G.T.g G.T.b G.T.builtins G.T.nolimit hg A8 hints (Nat.le_trans hlen Ou) hr (fun p hp => (List.mem_append.mp hp).elim (t2 p) (u2 p)) (BV KX G.T.g (m6 w) t1 u1) (zL w) (PySem.W.bmod_of_top G.T) hF hb (fun H hO hL hS => jx _ tabs lts H a ns (Paired.length u1).symm hlen hO hL hS) fun H e s' => HG H az e s'
noncomputable abbrev lU (K : PySem.W.Frag) (x : Str) (st : Stmt) (dv : Value) : Prop :=
  ∃ (f : Addr) (oc : Value) (od : Option Addr) (sl : Array (Option Value)) (T : Addr) (oT : Obj) (nT : Nat) (kV dc pm : Value) (an : Option Addr) (cd ct : Value),
    PySem.W.nsIn K mainGlobals x = some (some (.ref f)) ∧ K.lookup f = some ⟨oc, od, .func (PySem.W.fnOf x x (cK st) (bB st) (ai st) (.ref T) kV dc pm an cd ct), sl⟩ ∧ PySem.W.codeIn K cd x = true ∧ PySem.W.keepIn K (.ref f) = true ∧ K.lookup T = some oT ∧ oT.data = .seq #[dv] nT
theorem zO {K : PySem.W.Frag} {x : Str} {st : Stmt} {dv : Value} {f : Addr} {oc : Value} {od : Option Addr} {sl : Array (Option Value)} {T : Addr} {oT : Obj} {nT : Nat} {kV dc pm : Value} {an : Option Addr} {cd ct : Value} (a : PySem.W.nsIn K mainGlobals x = some (some (.ref f)))
    (l : K.lookup f = some ⟨oc, od, .func (PySem.W.fnOf x x (cK st) (bB st) (ai st) (.ref T) kV dc pm an cd ct), sl⟩) (c : PySem.W.codeIn K cd x = true) (k : PySem.W.keepIn K (.ref f) = true) (t : K.lookup T = some oT) (u : oT.data = .seq #[dv] nT) : lU K x st dv := ⟨f, oc, od, sl, T, oT, nT, kV, dc, pm, an, cd, ct, a, l, c, k, t, u⟩
theorem lU.df {K : PySem.W.Frag} {mg : Str → Option Value} {h : Heap} {x : Str} {st : Stmt} {dv : Value} (d : lU K x st dv) (X : K.In h) (G : h.Ns mainGlobals mg) (ps : List Str)
    (hb : ∀ (T : Addr) (kV doc pm : Value) (an : Option Addr) (cw ct : Value) (us : List Value), us.length + 1 = ps.length → ∃ k, bindArgs (PySem.W.fnOf x x (cK st) (bB st) (ai st) (.ref T) kV doc pm an cw ct) ⟨us, []⟩ = seqItems? (.ref T) >>= k ∧ k (some #[dv]) = pure (ps.zip (us ++ [dv])))
    (CH : ∀ (T : Addr) (kV doc pm : Value) (an : Option Addr) (cw ct : Value) (us : List Value), us.length = ps.length → ∃ k, bindArgs (PySem.W.fnOf x x (cK st) (bB st) (ai st) (.ref T) kV doc pm an cw ct) ⟨us, []⟩ = seqItems? (.ref T) >>= k ∧ k (some #[dv]) = pure (ps.zip us)) :
    ∃ f fd, C2 K mg x st ps [dv] f fd := by
  obtain ⟨f, oc, od, sl, T, oT, nT, kV, dc, pm, an, cd, ct, a, l, c, k, t, u⟩ := d
  refine ⟨f, _, ⟨oc, od, .ref T, kV, dc, pm, an, cd, ct, sl, rfl, l, c⟩, k, fun s us hK hl => ?_, fun s us hK hl => ?_, PySem.W.mg_of X G a⟩
  · obtain ⟨kk, h1, h2⟩ := hb T kV dc pm an cd ct us (by rw [List.length_append] at hl; exact hl)
    exact PySem.W.binds_K hK rfl t u h1 h2
  · rw [List.append_nil] at hl ⊢
    obtain ⟨kk, h1, h2⟩ := CH T kV dc pm an cd ct us hl
    exact PySem.W.binds_K hK rfl t u h1 h2
theorem BX {K : PySem.W.Frag} {tabs lts : List Addr} {qs : List Str} {H : Hp} {a : Addr} {ns : List Int} (hl : lts.length = qs.length) (hn : ns.length ≤ 63) (hT : ∀ p ∈ tabs, Tb p H) (hL : ∀ p ∈ lts, H p = some (.lam #[])) (hS : bH K H a (ns.map V.int)) :
    spLaw K ⟨tabs, lts.zip qs⟩ [.ref a] H (fun v H' => v = .bl true ∧ ∀ p ∈ lts, ∃ ps, H' p = some (.lam ps)) fun _ _ _ => False :=
  ⟨a, ns, rfl, hS, hn, hT, fun p hp => ⟨#[], hL p.1 (List.of_mem_zip hp).1, trivial, fun pos cv e => nomatch e⟩, fun H' h => ⟨rfl, fun p hp => by
    obtain ⟨i, hi⟩ := List.mem_iff_getElem?.mp hp
    have h1 := (List.getElem?_eq_some_iff.mp hi).1
    exact h (p, qs[i]) (List.mem_of_getElem? (i := i) (List.getElem?_zip_eq_some.mpr ⟨hi, List.getElem?_eq_getElem (by omega)⟩))⟩⟩
theorem zP {K : PySem.W.Frag} {x : Str} {st : Stmt} {i : Int} {tk : Tok} {f : Addr} {oc : Value} {od : Option Addr} {sl : Array (Option Value)} {T : Addr} {oT : Obj} {nT : Nat} {kV dc pm : Value} {an : Option Addr} {cd ct : Value} (a : PySem.W.nsIn K mainGlobals x = some (some (.ref f)))
    (l : K.lookup f = some ⟨oc, od, .func (PySem.W.fnOf x x (cK st) (bB st) (ai st) (.ref T) kV dc pm an cd ct), sl⟩) (c : PySem.W.codeIn K cd x = true) (k : PySem.W.keepIn K (.ref f) = true) (t : K.lookup T = some oT) (u : oT.data = .seq #[.int i tk] nT) : ∃ tk, lU K x st (.int i tk) := ⟨tk, zO a l c k t u⟩
structure ip (h : Heap) (d : Addr) (es : Array DictEntry) (ep : Nat) : Prop where
  ex : ∃ o, h.get? d = some o ∧ o.cls = .type "dict" ∧ o.data = .dict es ep
noncomputable abbrev zQ (d : Addr) (i n ep : Nat) : Obj := { cls := .type "dict_keyiterator", dict := none, data := .fields #[.ref d, .int i 0, .int n 0, .int ep 0], slots := #[] }
theorem o7 (d : Addr) : ¬ ((Value.ref d == Value.none) = true) := fun z => nomatch (show false = true from z)
section
variable {prog : Program} {w : World} {A : Around} {E : Value → Shared → Prop} {s : Shared} {d it : Addr} {es : Array DictEntry} {ep i : Nat}
theorem KR {Q : Option Value → Shared → Prop} (gi : s.heap.get? it = some (zQ d i es.size ep)) (r : ip s.heap d es ep) (hi : i < es.size)
    (q : ∀ h', h'.get? it = some (zQ d (i + 1) es.size ep) → Heap.SameBut it s.heap h' → Q (some es[i].key) { s with heap := h' }) : wpAny (model prog w) A (pyNext (.ref it)) Q E s := by
  obtain ⟨o, g, c, dt⟩ := r
  have ty : s.TypeIs (.ref it) "dict_keyiterator" := ⟨_, gi, rfl⟩
  unfold pyNext
  refine wpAny_bind (wpAny_attempt (wpAny_callSpecial?_slot (name := Str.ofString "__next__") ty PySem.F.slot_dict_keyiterator_next (wpAny_call_entry PySem.F.slot_dict_keyiterator_next ty PySem.F.entry_dict_keyiterator_next ?_ (PySem.F.args_dict_keyiterator_next_1 _))))
  refine wpAny_bind (wpAny_pure (wpAny_bind (wpAny_bind ?_)))
  refine wpAny_bind (wpAny_typeNameOfWhole_keyiter ty (wpAny_pure (wpAny_bind (wpAny_fieldsOf gi rfl ?_))))
  simp only [show Builtin.Dict_items.ownsTuple "dict_keyiterator" = false by decide, Bool.false_eq_true, if_false]
  refine (show wpAny _ _ (if (Value.ref d == Value.none) = true then _ else _) _ _ s from ?_)
  rw [if_neg (o7 d)]
  refine wpAny_bind (wpAny_pure (wpAny_bind (wpAny_dictEntries g dt ?_)))
  rw [if_neg (by simp)]
  refine wpAny_bind (wpAny_pure (wpAny_bind (wpAny_dictEpoch g dt ?_)))
  rw [if_neg (by simp)]
  refine wpAny_pure ?_
  simp only [show ¬ ((i : Int) < 0) by omega, if_false, Int.toNat_natCast, Array.getElem?_eq_getElem hi]
  refine wpAny_bind (wpAny_bind (wpAny_typeNameOfWhole_keyiter ty (wpAny_pure (wpAny_bind (wpAny_isOneOf_keyiter ty ?_)))))
  refine (show wpAny _ _ (setField (.ref it) 1 (rawInt ((i : Int) + 1)) >>= _) _ _ s from wpAny_bind (wpAny_setField_rec gi (by simp) fun h1 e1 b1 => ?_))
  have e1 : h1.get? it = some (zQ d (i + 1) es.size ep) := by
    rw [e1]; simp [zQ, rawInt]
  refine wpAny_bind (wpAny_holding (wpAny_bind (wpAny_isOneOf_keyiter (s := { s with heap := h1 }) ⟨_, e1, rfl⟩ ?_)))
  exact (show wpAny _ _ (pure es[i].key) _ _ _ from wpAny_pure (wpAny_pure ⟨_, rfl, wpAny_pure (q _ e1 b1)⟩))
theorem Mw {Q : Option Value → Shared → Prop} (hh : A.handled = none) (gi : s.heap.get? it = some (zQ d i es.size ep)) (r : ip s.heap d es ep) (hi : es.size ≤ i)
    (q : ∀ h', Heap.ExtBut it s.heap h' → Q none { s with heap := h' }) : wpAny (model prog w) A (pyNext (.ref it)) Q E s := by
  obtain ⟨o, g, c, dt⟩ := r
  have ty : s.TypeIs (.ref it) "dict_keyiterator" := ⟨_, gi, rfl⟩
  unfold pyNext
  refine wpAny_bind (wpAny_attempt (wpAny_callSpecial?_slot (name := Str.ofString "__next__") ty PySem.F.slot_dict_keyiterator_next (wpAny_call_entry PySem.F.slot_dict_keyiterator_next ty PySem.F.entry_dict_keyiterator_next ?_ (PySem.F.args_dict_keyiterator_next_1 _))))
  refine wpAny_bind (wpAny_pure (wpAny_bind (wpAny_bind ?_)))
  refine wpAny_bind (wpAny_typeNameOfWhole_keyiter ty (wpAny_pure (wpAny_bind (wpAny_fieldsOf gi rfl ?_))))
  simp only [show Builtin.Dict_items.ownsTuple "dict_keyiterator" = false by decide, Bool.false_eq_true, if_false]
  refine (show wpAny _ _ (if (Value.ref d == Value.none) = true then _ else _) _ _ s from ?_)
  rw [if_neg (o7 d)]
  refine wpAny_bind (wpAny_pure (wpAny_bind (wpAny_dictEntries g dt ?_)))
  rw [if_neg (by simp)]
  refine wpAny_bind (wpAny_pure (wpAny_bind (wpAny_dictEpoch g dt ?_)))
  rw [if_neg (by simp)]
  refine wpAny_pure ?_
  simp only [show ¬ ((i : Int) < 0) by omega, if_false, Int.toNat_natCast, Array.getElem?_eq_none hi]
  refine wpAny_bind (wpAny_bind (wpAny_typeNameOfWhole_keyiter ty (wpAny_pure ?_)))
  refine (show wpAny _ _ (setField (.ref it) 0 .none >>= _) _ _ s from wpAny_bind (wpAny_setField_rec gi (by simp) fun h1 e1 b1 => ?_))
  refine (show wpAny _ _ (newExc (.type "StopIteration") [] >>= _) _ _ _ from wpAny_bind ?_)
  simp only [newExc, newTuple]
  refine wpAny_bind (wpAny_newObj_type (wpAny_bind (m := firstArgMember _ _) (wpAny_of_eq (a := Value.none) (by first | rfl | (simp only [firstArgMember]; rfl)) (wpAny_newObj_type ?_ (by size_fits)))) (by size_fits))
  simp only [raiseNew]
  refine wpAny_bind (wpAny_handled ?_)
  rw [show A.in1.handled = none from hh]
  refine wpAny_bind (wpAny_pure (wpAny_throw ?_))
  refine wpAny_bind (wpAny_isInstance (T := "StopIteration") (b := true) ⟨_, Heap.get?_push_size _ rfl, rfl⟩ isSubtype_stop (wpAny_pure (q _ ?_)))
  exact (b1.extBut.push _).push _
theorem xg (d : Addr) (lo : (d == sysModules) = false) : MeetsIn prog w (Builtin.«dict.items» ⟨[.ref d], []⟩) (fun _ R s => s.TypeIs (.ref d) "dict" ∧ R (.ok (.ret (.ref s.heap.objs.size))) { s with heap := s.heap.push { cls := .type "dict_items", data := .fields #[.ref d] } }) :=
  .of_wp fun A R s ⟨ty, h⟩ => by
    unfold Builtin.«dict.items» Builtin.Dict.noArgs
    refine wpAny_bind (wpAny_bind (wpAny_notOrdered_dict ty ?_))
    refine (show wpAny _ _ (pure d) _ _ s from wpAny_pure ?_)
    refine (show wpAny _ _ (Builtin.Dict.showsAll d >>= _) _ _ s from ?_)
    unfold Builtin.Dict.showsAll; rw [if_neg (by rw [lo]; decide)]
    exact wpAny_bind (wpAny_pure (wpAny_bind (wpAny_newObj_type (wpAny_pure ⟨_, rfl, h⟩))))
theorem xh {R : Value → Shared → Prop} (lo : (d == sysModules) = false) (r : ip s.heap d es ep) (q : R (.ref s.heap.objs.size) { s with heap := s.heap.push { cls := .type "dict_items", data := .fields #[.ref d] } }) :
    wpAny (model prog w) A (call (.builtin "dict.items") [.ref d]) R E s := by
  obtain ⟨o, g, c, dt⟩ := r
  have ty : s.TypeIs (.ref d) "dict" := ⟨o, g, c⟩
  exact call_meetsIn PySem.F.slot_dict_items ty PySem.F.entry_dict_items (PySem.F.args_dict_items_1 _) (xg d lo) ⟨ty, q⟩
theorem xi {v : Addr} {Q : Value → Shared → Prop} (hv : s.heap.IsItemsView v d) (r : ip s.heap d es ep)
    (q : ∀ h', h'.objs.size = s.heap.objs.size + 1 → IsItemIter h' s.heap.objs.size d 0 es.size ep .none .none → (∀ b o, s.heap.get? b = some o → h'.get? b = some o) → Q (.ref s.heap.objs.size) { s with heap := h' }) : wpAny (model prog w) A (pyIter (.ref v)) Q E s := by
  obtain ⟨ov, gv, cv, dv⟩ := id hv
  obtain ⟨o, g, c, dt⟩ := r
  refine wpAny_pyIter_slot hv.typeIs PySem.F.slot_dict_items_iter (wpAny_call_entry PySem.F.slot_dict_items_iter hv.typeIs PySem.F.entry_dict_items_iter ?_ (PySem.F.args_dict_items_iter_1 _))
  unfold Builtin.«dict_items.__iter__» Builtin.Dict_items.dictOf Builtin.Dict_items.newIterator
  refine wpAny_bind (wpAny_pure (wpAny_bind (wpAny_bind (wpAny_field gv dv (x := .ref d) rfl (wpAny_pure ?_)))))
  refine wpAny_bind (wpAny_bind (wpAny_dictEntries g dt (wpAny_bind (wpAny_dictEpoch g dt ?_))))
  simp only [show Builtin.Dict_items.ownsTuple "dict_itemiterator" = true by decide, if_true]
  refine wpAny_newObj_type (wpAny_pure ⟨_, rfl, "dict_itemiterator", _, ⟨_, Heap.get?_push_size _ rfl, rfl⟩, PySem.F.slot_dict_itemiterator_next.lookup, q _ (Heap.size_push ..) ?_ fun b o e => Heap.get?_push_of_some _ e⟩) ?_
  · refine (Heap.get?_push_size _ rfl).trans ?_
    simp [rawInt, Builtin.Dict_items.ownedTupleFields]
  · simp only [sizeOk, Builtin.Dict_items.ownedTupleFields, List.size_toArray, List.length_append, List.length_cons, List.length_nil]
    decide
theorem xj {ok ov : Value} {Q : Option Value → Shared → Prop} (gi : IsItemIter s.heap it d i es.size ep ok ov) (r : ip s.heap d es ep) (hi : i < es.size)
    (q : ∀ h', IsItemIterOut h' it d (i + 1) es.size ep es[i].key es[i].val s.heap.objs.size → h'.get? s.heap.objs.size = some { cls := .type "tuple", data := .seq #[es[i].key, es[i].val] } → h'.objs.size = s.heap.objs.size + 1 →
      (∀ b o, b ≠ it → s.heap.get? b = some o → h'.get? b = some o) → Q (some (.ref s.heap.objs.size)) { s with heap := h' }) : wpAny (model prog w) A (pyNext (.ref it)) Q E s := by
  obtain ⟨hp, gn, dr, tk, os⟩ := s
  obtain ⟨o, g, c, dt⟩ := r
  have ty : Shared.TypeIs ⟨hp, gn, dr, tk, os⟩ (.ref it) "dict_itemiterator" := ⟨_, gi, rfl⟩
  unfold pyNext
  refine wpAny_bind (wpAny_attempt (wpAny_callSpecial?_slot (name := Str.ofString "__next__") ty PySem.F.slot_dict_itemiterator_next (wpAny_call_entry PySem.F.slot_dict_itemiterator_next ty PySem.F.entry_dict_itemiterator_next ?_ (PySem.F.args_dict_itemiterator_next_1 _))))
  refine wpAny_bind (wpAny_pure (wpAny_bind (wpAny_bind ?_)))
  refine wpAny_bind (wpAny_typeNameOfWhole_itemiter ty (wpAny_pure (wpAny_bind (wpAny_fieldsOf gi rfl ?_))))
  simp only [show Builtin.Dict_items.ownsTuple "dict_itemiterator" = true by decide, if_true]
  refine (show wpAny _ _ (if (Value.ref d == Value.none) = true then _ else _) _ _ _ from ?_)
  rw [if_neg (o7 d)]
  refine wpAny_bind (wpAny_pure (wpAny_bind (wpAny_dictEntries g dt ?_)))
  rw [if_neg (by simp)]
  refine wpAny_bind (wpAny_pure (wpAny_bind (wpAny_dictEpoch g dt ?_)))
  rw [if_neg (by simp)]
  refine wpAny_pure ?_
  simp only [show ¬ ((i : Int) < 0) by omega, if_false, Int.toNat_natCast, Array.getElem?_eq_getElem hi]
  refine wpAny_bind (wpAny_bind (wpAny_typeNameOfWhole_itemiter ty (wpAny_pure (wpAny_bind (wpAny_isOneOf_itemiter ty ?_)))))
  refine (show wpAny _ _ (setField (.ref it) 3 (rawInt ((i : Int) + 1)) >>= _) _ _ ⟨hp, gn, dr, tk, os⟩ from wpAny_bind (wpAny_setField_rec gi (by simp) fun h1 e1 b1 => ?_))
  have e1 : IsItemIter h1 it d (i + 1) es.size ep ok ov := e1.trans (by simp [rawInt])
  have KS : Shared.TypeIs ⟨h1, gn, dr, tk, os⟩ (.ref it) "dict_itemiterator" := ⟨_, e1, rfl⟩
  refine wpAny_bind (wpAny_holding (wpAny_bind (wpAny_isOneOf_itemiter KS (wpAny_bind (wpAny_isOneOf_itemiter KS ?_)))))
  refine (show wpAny _ _ (Builtin.Dict_items.pairFromOwner (.ref it) 6 es[i].key es[i].val) _ _ ⟨h1, gn, dr, tk, os⟩ from ?_)
  unfold Builtin.Dict_items.pairFromOwner
  refine wpAny_bind (wpAny_newTuple ?_)
  have b1 : Heap.SameBut it hp h1 := b1
  have z1 : h1.objs.size = hp.objs.size := b1.1
  have il : it < hp.objs.size := Heap.lt_size gi
  obtain ⟨h2, zR⟩ : ∃ h2, h2 = h1.push { cls := .type "tuple", data := .seq #[es[i].key, es[i].val] } := ⟨_, rfl⟩
  have e2 : IsItemIter h2 it d (i + 1) es.size ep ok ov := by rw [zR]; exact Heap.get?_push_of_some _ e1
  have t2 : h2.get? hp.objs.size = some { cls := .type "tuple", data := .seq #[es[i].key, es[i].val] } := by rw [zR, ← z1]; exact Heap.get?_push_size _ rfl
  have z2 : h2.objs.size = hp.objs.size + 1 := by rw [zR, Heap.size_push, z1]
  have k2 : ∀ b o, b ≠ it → hp.get? b = some o → h2.get? b = some o := fun b o hb e => by rw [zR]; exact Heap.get?_push_of_some _ (b1.extBut b o hb e)
  refine (show wpAny _ _ (Builtin.Dict_items.ownedTupleIsFree (.ref it) >>= _) _ _ ⟨h1.push { cls := .type "tuple", data := .seq #[es[i].key, es[i].val] }, gn, dr, tk, os⟩ from ?_)
  rw [← zR, z1]
  unfold Builtin.Dict_items.ownedTupleIsFree
  refine wpAny_bind (wpAny_bind (wpAny_field e2 rfl (x := .none) rfl (wpAny_pure ?_)))
  simp only [if_true]
  refine wpAny_bind (wpAny_field e2 rfl (x := ok) rfl (wpAny_bind (wpAny_field e2 rfl (x := ov) rfl ?_)))
  refine wpAny_bind (wpAny_setField_rec e2 (by simp) fun h3 e3 b3 => wpAny_bind (wpAny_setField_rec e3 (by simp) fun h4 e4 b4 => wpAny_bind (wpAny_setField_rec e4 (by simp) fun h5 e5 b5 => wpAny_bind (wpAny_setField_rec e5 (by simp) fun h6 e6 b6 => ?_))))
  have b3 : Heap.SameBut it h2 h3 := b3
  have b4 : Heap.SameBut it h3 h4 := b4
  have b5 : Heap.SameBut it h4 h5 := b5
  have b6 : Heap.SameBut it h5 h6 := b6
  have all : ∀ b o, b ≠ it → h2.get? b = some o → h6.get? b = some o := fun b o n e => b6.extBut b o n (b5.extBut b o n (b4.extBut b o n (b3.extBut b o n e)))
  refine wpAny_bind (wpAny_letGo (wpAny_pure (wpAny_pure ⟨_, rfl, wpAny_pure (q h6 e6 (all _ _ (Nat.ne_of_gt il) t2) ?_ fun b o n e => all b o n (k2 b o n e))⟩)))
  exact (show h6.objs.size = _ by rw [b6.1, b5.1, b4.1, b3.1, z2])
theorem zS {ok ov : Value} {Q : Option Value → Shared → Prop} (hh : A.handled = none) (gi : IsItemIter s.heap it d i es.size ep ok ov) (r : ip s.heap d es ep) (hi : es.size ≤ i)
    (q : ∀ h', Heap.ExtBut it s.heap h' → Q none { s with heap := h' }) : wpAny (model prog w) A (pyNext (.ref it)) Q E s := by
  obtain ⟨o, g, c, dt⟩ := r
  have ty : s.TypeIs (.ref it) "dict_itemiterator" := ⟨_, gi, rfl⟩
  unfold pyNext
  refine wpAny_bind (wpAny_attempt (wpAny_callSpecial?_slot (name := Str.ofString "__next__") ty PySem.F.slot_dict_itemiterator_next (wpAny_call_entry PySem.F.slot_dict_itemiterator_next ty PySem.F.entry_dict_itemiterator_next ?_ (PySem.F.args_dict_itemiterator_next_1 _))))
  refine wpAny_bind (wpAny_pure (wpAny_bind (wpAny_bind ?_)))
  refine wpAny_bind (wpAny_typeNameOfWhole_itemiter ty (wpAny_pure (wpAny_bind (wpAny_fieldsOf gi rfl ?_))))
  simp only [show Builtin.Dict_items.ownsTuple "dict_itemiterator" = true by decide, if_true]
  refine (show wpAny _ _ (if (Value.ref d == Value.none) = true then _ else _) _ _ s from ?_)
  rw [if_neg (o7 d)]
  refine wpAny_bind (wpAny_pure (wpAny_bind (wpAny_dictEntries g dt ?_)))
  rw [if_neg (by simp)]
  refine wpAny_bind (wpAny_pure (wpAny_bind (wpAny_dictEpoch g dt ?_)))
  rw [if_neg (by simp)]
  refine wpAny_pure ?_
  simp only [show ¬ ((i : Int) < 0) by omega, if_false, Int.toNat_natCast, Array.getElem?_eq_none hi]
  refine wpAny_bind (wpAny_bind (wpAny_typeNameOfWhole_itemiter ty (wpAny_pure ?_)))
  refine (show wpAny _ _ (setField (.ref it) 2 .none >>= _) _ _ s from wpAny_bind (wpAny_setField_rec gi (by simp) fun h1 e1 b1 => ?_))
  refine (show wpAny _ _ (newExc (.type "StopIteration") [] >>= _) _ _ _ from wpAny_bind ?_)
  simp only [newExc, newTuple]
  refine wpAny_bind (wpAny_newObj_type (wpAny_bind (m := firstArgMember _ _) (wpAny_of_eq (a := Value.none) (by first | rfl | (simp only [firstArgMember]; rfl)) (wpAny_newObj_type ?_ (by size_fits)))) (by size_fits))
  simp only [raiseNew]
  refine wpAny_bind (wpAny_handled ?_)
  rw [show A.in1.handled = none from hh]
  refine wpAny_bind (wpAny_pure (wpAny_throw ?_))
  refine wpAny_bind (wpAny_isInstance (T := "StopIteration") (b := true) ⟨_, Heap.get?_push_size _ rfl, rfl⟩ isSubtype_stop (wpAny_pure (q _ ?_)))
  exact (b1.extBut.push _).push _
end
noncomputable def C6 (es : Array DictEntry) (ps : List (V × V)) : Prop := es.size = ps.length ∧ ∀ (i : Nat) (p : V × V), ps[i]? = some p → ∃ hi : i < es.size, RelV p.1 es[i].key ∧ RelV p.2 es[i].val
inductive xk (H : Hp) : HO → List (V × V) → Prop where
  | k (aq : List (Key × V)) : xk H (.dK aq) (aq.map fun kv => (kV kv.1, kv.2))
  | t (aq : List (List Key × V)) (bs : List Addr) (hl : bs.length = aq.length) (h : ∀ (i : Nat) (b : Addr) (kv : List Key × V), bs[i]? = some b → aq[i]? = some kv → H b = some (.tup (kv.1.map kV))) : xk H (.dT aq) ((bs.map V.ref).zip (aq.map (·.2)))
theorem BZ {P : Program} {w : World} {k : Key} {u : Value} (h : (bO P w).is k u = true) : RelV (kV k) u := by
  rcases bX (k := k) (v := u) h with ⟨i, t, rfl, rfl⟩ | ⟨x, t, rfl, rfl⟩
  · exact ⟨t, rfl⟩
  · exact ⟨t, rfl⟩
theorem jG {α β : Type} {F : α → β → Prop} : ∀ {l : List α} {m : List β} {i : Nat} {a : α}, Paired F l m → l[i]? = some a → ∃ b, m[i]? = some b ∧ F a b
  | _, _, _, _, .nil, h => by simp at h
  | _, _, 0, _, .cons x _, h => by simp at h; subst h; exact ⟨_, rfl, x⟩
  | _, _, i + 1, _, .cons _ t, h => by obtain ⟨b, e, q⟩ := jG (i := i) t (by simpa using h); exact ⟨b, by simpa using e, q⟩
section
variable {P : Program} {w : World} {H : Hp} {h : Heap} {a : Addr} {u : HO}
structure Rows (H : Hp) (h : Heap) (a : Addr) (u : HO) (o : Obj) (es : Array DictEntry) (ep : Nat) (ps : List (V × V)) : Prop where
  obj : h.get? a = some o
  cls : o.cls = .type "dict"
  dict : o.dict = none
  data : o.data = .dict es ep
  lo : (a == sysModules) = false
  rel : C6 es ps
  ps : xk H u ps
theorem vI (ok : cp P w H h) (e : Rd H a u) (hu : i9 u = true) : ∃ o es ep ps, Rows H h a u o es ep ps := by
  have q := e.ok ok
  cases u with
  | dK aq =>
    obtain ⟨z, lo, vs, rel, o, es, ep, g, x, dt, hk, hp, hn⟩ := q
    refine ⟨o, es, ep, _, g, x.1, x.2.1, dt, lo, ⟨?_, fun i p hi => ?_⟩, .k aq⟩
    · have h1 := hp.length
      have h2 := rel.length
      simp only [List.length_map, Array.length_toList] at h1 ⊢
      omega
    · rw [List.getElem?_map, Option.map_eq_some_iff] at hi
      obtain ⟨kv, rn, rfl⟩ := hi
      obtain ⟨⟨k', v'⟩, hv, e1, e2⟩ := jG rel rn
      have hl : i < es.size := by
        have h1 := hp.length
        have h2 := (List.getElem?_eq_some_iff.mp hv).1
        simp only [Array.length_toList] at h1
        omega
      obtain ⟨a1, a2⟩ := hp.get? (e := es[i]) (by simp [hl]) hv
      refine ⟨hl, ?_, ?_⟩
      · rw [e1]; exact BZ a1
      · rw [a2]; exact e2
  | dT aq =>
    obtain ⟨z, lo, xs, rel, o, es, ep, g, x, dt, he, hn⟩ := q
    have Ow : aq.length = xs.length := Paired.length rel
    have Ox : es.size = xs.length := by
      have := congrArg List.length he
      simpa using this
    refine ⟨o, es, ep, _, g, x.1, x.2.1, dt, lo, ⟨?_, fun i p hi => ?_⟩, .t aq (xs.map (·.2.1)) (by rw [List.length_map]; exact Ow.symm) fun i b kv hb rn => ?_⟩
    · simp only [List.length_zip, List.length_map]; omega
    · rw [List.getElem?_zip_eq_some, List.map_map, List.getElem?_map, List.getElem?_map, Option.map_eq_some_iff, Option.map_eq_some_iff] at hi
      obtain ⟨⟨x1, zT, e1⟩, ⟨kv, rn, e2⟩⟩ := hi
      obtain ⟨x2, zU, _, _, r⟩ := jG rel rn
      rw [zT] at zU
      cases zU
      have hl : i < es.size := by rw [Ox]; exact (List.getElem?_eq_some_iff.mp zT).1
      have KU : es[i] = entryOfKey (tupleKind (bO P w)) x1 := by
        have : es.toList[i]? = some (entryOfKey (tupleKind (bO P w)) x1) := by rw [he, List.getElem?_map, zT]; rfl
        rw [Array.getElem?_toList, Array.getElem?_eq_getElem hl] at this
        exact Option.some.inj this
      refine ⟨hl, ?_, ?_⟩
      · rw [KU, ← e1]; rfl
      · rw [KU, ← e2]; exact r
    · rw [List.getElem?_map, Option.map_eq_some_iff] at hb
      obtain ⟨x1, zT, rfl⟩ := hb
      obtain ⟨x2, zU, e1, e2, _⟩ := jG rel rn
      rw [zT] at zU
      cases zU
      exact e2
  | _ => cases hu
end
inductive gO (a : Addr) (o : Obj) (u : HO) (H : Hp) : Hp → Prop where
  | now (e : H a = some u) (hu : i9 u = true) : gO a o u H (upd H a (.bD o u))
  | was (e : H a = some (.bD o u)) : gO a o u H H
theorem gO.at {a : Addr} {o : Obj} {u : HO} {H H2 : Hp} (f : gO a o u H H2) : H2 a = some (.bD o u) := by
  cases f with
  | now e hu => exact ay
  | was e => exact e
section
variable {X : Cx} {pins : List (Addr × Obj)} {σ : St} {H : Hp} {s : Shared} {a : Addr} {o : Obj} {u : HO}
theorem Inv.bD (I : Inv X pins σ H s) (e : H a = some u) (hu : i9 u = true) (ho : s.heap.get? a = some o) : Inv X pins σ (upd H a (.bD o u)) s := by
  have nT : ∀ b v, H b = some v → i9 v = false → b ≠ a := fun b v q n z => by rw [z, e] at q; cases q; rw [hu] at n; cases n
  have n0 : ∀ b, H b = none → b ≠ a := fun b q z => by rw [z, e] at q; cases q
  have J := I.un (t' := s.toks) (h' := s.heap) (H' := upd H a (.bD o u)) ⟨fun b v q n _ _ => q, fun b v q n _ _ => ⟨v.slots, q⟩, fun b v q n _ => by rw [ae (n0 b n)]; exact n, fun b v q _ => ⟨v, q⟩, fun b xs q => by rw [ae (nT b _ q rfl)]; exact q,
    fun b v xs q => by rw [ae (nT b _ q rfl)]; exact q, fun b qs q => ⟨#[], by rw [ae (nT b _ q rfl), q]; simp⟩⟩ fun b v q => ?_
  · exact J
  · by_cases hb : b = a
    · subst hb
      rw [ay] at q; cases q
      exact ⟨ho, (I.hok b u e).bT (fun _ _ _ z => z) (fun c z => by rw [ae (nT c _ z rfl)]; exact z) fun c xs z => by rw [ae (nT c _ z rfl)]; exact z⟩
    · rw [ae hb] at q
      exact (I.hok b v q).bT (fun _ _ _ z => z) (fun c z => by rw [ae (nT c _ z rfl)]; exact z) fun c xs z => by rw [ae (nT c _ z rfl)]; exact z
theorem Inv.Er (I : Inv X pins σ H s) (d : Rd H a u) (hu : i9 u = true) : ∃ o H2 es ep ps, gO a o u H H2 ∧ Inv X pins σ H2 s ∧ Rows H s.heap a u o es ep ps := by
  obtain ⟨o, es, ep, ps, R⟩ := vI I.hok d hu
  rcases d with d | ⟨o', d⟩
  · exact ⟨o, _, es, ep, ps, .now d hu, I.bD d hu R.obj, R⟩
  · have e := (I.hok a _ d).1
    rw [R.obj] at e
    cases e
    exact ⟨o, H, es, ep, ps, .was d, I, R⟩
end
noncomputable def HJ (a : Addr) (o : Obj) (u : HO) (ps : List (V × V)) : It := ⟨fun i H => H a = some (.bD o u) ∧ i < ps.length, fun i H x H' => ∃ t p, H t = none ∧ x = .ref t ∧ ps[i]? = some p ∧ H' = upd H t (.tup [p.1, p.2]), fun i H => H a = some (.bD o u) ∧ ps.length ≤ i⟩
section
variable {P : Program} {w : World} {K : PySem.W.Frag} {a it : Addr} {o : Obj} {u : HO} {es : Array DictEntry} {ep : Nat} {ps : List (V × V)}
theorem xl {elts : List Expr} {x1 : Nat} {pos : Pos} (zJ : o.cls = .type "dict") (KW : o.data = .dict es ep) (rel : C6 es ps) (eF : a ≠ it) : Turn P w K (.Tuple elts x1 pos) (HJ a o u ps) [it] it (fun i h => ∃ ok ov, IsItemIter h it a i es.size ep ok ov) where
  mem := by simp
  obj := fun i h st b hb => by
    obtain ⟨ok, ov, st⟩ := st
    have e : b = it := by simpa using hb
    subst e
    exact ⟨_, st, fun v z => nomatch z⟩
  keep := fun i h h' ⟨ok, ov, st⟩ k => ⟨ok, ov, k it (by simp) _ st⟩
  item := by
    intro X hP hw hK hc i pins s σ H E I hf st hg
    subst hP hw hK
    obtain ⟨ok, ov, st⟩ := st
    obtain ⟨ha, hi⟩ := hg
    have hr : ip s.heap a es ep := ⟨o, (I.hok a _ ha).1, zJ, KW⟩
    obtain ⟨p, hp⟩ : ∃ p, ps[i]? = some p := ⟨_, List.getElem?_eq_getElem hi⟩
    obtain ⟨m5, r1, r2⟩ := rel.2 i p hp
    refine xj st hr m5 fun h1 eo t1 z1 kk => ⟨_, rfl, wpAny_letOwnedTupleGo_items (s := { s with heap := h1 }) eo fun h2 e2 (oM : Heap.SameBut it h1 h2) => ?_⟩
    have il : it < s.heap.objs.size := Heap.lt_size st
    have I2 : Inv X pins σ H { s with heap := h2 } := I.pP (t' := s.toks) (ch := [it]) (fun b o hb q => by
      have hb : b ≠ it := by simpa using hb
      exact (oM.2 b hb).trans (kk b o hb q)) fun b hb => hf b hb
    have t2 : h2.get? s.heap.objs.size = some { cls := .type "tuple", data := .seq #[es[i].key, es[i].val] } := (oM.2 _ (Nat.ne_of_gt il)).trans t1
    have hn : H s.heap.objs.size = none := I.hok.fresh (Nat.le_refl _)
    refine ⟨.ref s.heap.objs.size, _, Inv.pair (s := s) (tk0 := s.toks) I (Nat.le_refl _) I2 t2 r1 r2, rfl, ⟨_, p, hn, rfl, hp, rfl⟩, ⟨_, _, e2⟩, fun b hb => ?_⟩
    have l : b ≠ s.heap.objs.size := by
      have e : b = it := by simpa using hb
      rw [e]; exact Nat.ne_of_lt il
    rw [ae l]
    exact (hf b hb).1
  done := by
    intro X hP hw hK hc i pins s σ H E I hf st hg
    subst hP hw hK
    obtain ⟨ok, ov, st⟩ := st
    obtain ⟨ha, hi⟩ := hg
    have hr : ip s.heap a es ep := ⟨o, (I.hok a _ ha).1, zJ, KW⟩
    obtain ⟨f0, f1, f2, f3, f4, f5⟩ := hf it (by simp)
    exact zS (I.ok.hd hc) st hr (by rw [rel.1]; exact hi) fun h' eb => ⟨rfl, I.turned (t' := s.toks) (fun b o hb e => eb b o hb e) f0 f1 f3 f4 f5⟩
  self := fun A i s Q E st h => by
    obtain ⟨ok, ov, st⟩ := st
    exact PySem.W.kcp_self st h
end
end L2
namespace L2
open PySem PySem.Spec PySem.W PyProof.Rows
section
variable {X : Cx} {Γ : Gz} {K : PySem.W.Frag}
open Classical in
theorem B1 {A : Around} {E : Value → Shared → Prop} {s : Shared} {P : Program} {w : World} {d : Addr} {o : Obj} {es : Array DictEntry} {ep : Nat} {Q : Value → Shared → Prop} (hd : (d == sysModules) = false) (ho : s.heap.get? d = some o) (hc : o.cls = .type "dict") (Mx : o.data = .dict es ep) (Pj : (es.size : Int) < 2 ^ 63)
    (h : Q (.int es.size (s.toks + 1)) { s with toks := s.toks + 1 + 1 }) : wpAny (model P w) A (call (.builtin "len") [.ref d]) Q E s := by
  have mt : Meets (Builtin.«dict.__len__» ⟨[.ref d], []⟩) (fun _ R s' => s'.heap.get? d = some o ∧ R (.ok (.ret (.int es.size s'.toks))) { s' with toks := s'.toks + 1 }) := .of_wp fun P w A R s' ⟨hg, hR⟩ => by
    show wpAny _ _ (dictSize d >>= _) _ _ s'
    unfold dictSize
    exact wpAny_bind (wpAny_bind (wpAny_dictEntries hg Mx (wpAny_pure (wpAny_bind (wpAny_pendingCount_other hd (wpAny_ret_mkInt (by rw [Nat.add_zero]; exact hR)))))))
  exact call_len_meets ⟨_, ho, hc⟩ F.slot_dict_len F.entry_dict_len (F.args_dict_len_1 _) mt (by omega) (by omega) (fun _ q => ⟨ho, q⟩) h
noncomputable def zLenT (d : Dv) (M : Mh) (Q : ZK) : Prop := match nowK M d with | .dt ks _ => Q (.int ks.length) M | _ => False
theorem HK : fv Γ X (.builtin "len") (z1 zLenT) := ⟨fun xs H Q => ∃ a aq, xs = [.ref a] ∧ Rd H a (.dT aq) ∧ Q (.int aq.length) H, fun pins s σ H xs us Q I rs ⟨a, aq, e, ha, q⟩ => by
  subst e
  cases rs with
  | cons r1 rs =>
    cases rs
    cases r1
    obtain ⟨o, es, ep, ps, R⟩ := vI I.hok ha rfl
    have hl := (oN I.hok ha).1
    have hp : ps.length = aq.length := by
      cases R.ps with
      | t _ bs hl h => simp only [List.length_zip, List.length_map]; omega
    have he : es.size = aq.length := R.rel.1.trans hp
    refine B1 R.lo R.obj R.cls R.data (by rw [he]; rw [show sizeLine = 16777216 from rfl] at hl; omega) ⟨.int aq.length, H, I.tok _, ⟨_, by rw [he]⟩, q⟩, fun β xs ds M H Q Q' _ _ _ m rs z q => by
  unfold z1 at z
  split at z
  · obtain ⟨x, rfl, r⟩ := ee rs
    unfold zLenT at z
    split at z
    · rename_i ks ds hk
      obtain ⟨a, vs, rfl, ha, hk, _⟩ := (vF m r).2 _ _ hk
      refine ⟨a, _, rfl, ha, ?_⟩
      rw [List.length_zip, ← hk, Nat.min_self]
      exact q _ _ _ _ (.refl m) (.int _) z
    · exact z.elim
  · exact z.elim⟩
end
end L2
namespace L2
open PySem PySem.Spec PyProof.Rows
section
variable {X : Cx} {tg l : Expr} {tl : TE}
noncomputable def HL (tl : TE) : TI := fun σ H R => tl σ H fun x H1 => ∃ a u, x = .ref a ∧ i9 u = true ∧ Rd H1 a u ∧ ∀ o H2 ps, gO a o u H1 H2 → xk H1 u ps → R (HJ a o u ps) H2
theorem B2 {elts : List Expr} {x1 : Nat} {tp apos aW : Pos} (hl : PE X l tl) (hb : attributeBase l "items" X.env (eval l X.env) = eval l X.env := by rfl) (hn : (apos.endLine == aW.line) = true := by rfl) :
    PI X (.Tuple elts x1 tp) (.Call (.Attribute l "items" apos) [] [] aW) (HL tl) := by
  intro pins s σ H R I h
  refine wpAny_Call_method0_late hb hn (thn (hl pins s σ H _ I h) fun v s1 ⟨x, H1, I1, r1, q1⟩ => ?_)
  obtain ⟨a, u, e, hu, hr, q⟩ := q1
  subst e
  cases r1
  obtain ⟨o, H2, es, ep, ps, f, I2, rw⟩ := I1.Er hr hu
  have aU := Heap.lt_size rw.obj
  refine ⟨"dict", "dict.items", PySem.F.plainAttrs_dict, PySem.F.slot_dict_items, PySem.F.type_dict_items, ⟨o, rw.obj, rw.cls⟩, fun b e => by cases e; exact ⟨o, rw.obj, rw.dict⟩, Calls.callWith_builtin rfl (PySem.evalArgs_none (xh rw.lo ⟨o, rw.obj, rw.cls, rw.data⟩ ?_))⟩
  refine xi (v := s1.heap.objs.size) (d := a) ⟨_, Heap.get?_push_size _ rfl, rfl, rfl⟩ ⟨o, Heap.get?_push_of_some _ rw.obj, rw.cls, rw.data⟩ fun h' hz hit hk => ?_
  have hsz : (s1.heap.push { cls := .type "dict_items", data := .fields #[.ref a] }).objs.size = s1.heap.objs.size + 1 := by simp [Heap.push]
  have eF : a ≠ (s1.heap.push { cls := .type "dict_items", data := .fields #[.ref a] }).objs.size := Nat.ne_of_lt (by rw [hsz]; exact Nat.lt_succ_of_lt aU)
  refine ⟨_, [(s1.heap.push { cls := .type "dict_items", data := .fields #[.ref a] }).objs.size], _, _, H2, rfl, I2.kept (t' := s1.toks) fun b o e => hk b o (Heap.get?_push_of_some _ e), xl rw.cls rw.data rw.rel eF, ⟨_, _, hit⟩, fun b hb => ?_, q o H2 ps f rw.ps⟩
  have e : b = (s1.heap.push { cls := .type "dict_items", data := .fields #[.ref a] }).objs.size := by simpa using hb
  rw [e]
  have hle : s1.heap.objs.size ≤ (s1.heap.push { cls := .type "dict_items", data := .fields #[.ref a] }).objs.size := by rw [hsz]; exact Nat.le_succ _
  exact I2.jO hle (I2.hok.fresh hle)
end
theorem Ex.bD {β : Bz} {M : Mh} {H H2 : Hp} {a : Addr} {o : Obj} {u : HO} (m : Mz β M H) (f : gO a o u H H2) (fz : Fz β M a) : Ex β M H M H2 := by
  cases f with
  | was e => exact .refl m
  | now e hu =>
    have y : Ey M H M (upd H a (.bD o u)) := ⟨fun b v hm hb => by
      by_cases z : b = a
      · subst z
        rw [e] at hb
        cases hb
        exact .inr ⟨_, .inr (.inr ⟨hu, _, rfl⟩), ay⟩
      · exact .inl (by rw [ae z]; exact hb), fun _ h => h, fun _ _ h _ => h⟩
    have nd : ∀ b v, H b = some v → i9 v = false → b ≠ a := fun b v q n z => by rw [z, e] at q; cases q; rw [hu] at n; cases n
    refine ⟨y, ⟨fun b v hb => ?_, fun p hp => ?_, fun b hb => ?_, m.apart, fun p hp => ?_⟩⟩
    · have vJ : b ≠ a := fun z => by rw [z, fz.1] at hb; cases hb
      have q := m.obj b v hb
      cases v with
      | c6 =>
        obtain ⟨c, k, e2, r⟩ := q
        exact ⟨c, k, by rw [ae vJ]; exact e2, r⟩
      | lst ds =>
        obtain ⟨us, e2, ru⟩ := q
        exact ⟨us, by rw [ae vJ]; exact e2, ru.len, fun i w d p q => (ru.at' i w d p q).ey y⟩
      | dk ks ds =>
        obtain ⟨us, e2, hk, ru⟩ := q
        exact ⟨us, by rw [ae vJ]; exact e2, hk, ru.len, fun i w d p q => (ru.at' i w d p q).ey y⟩
      | dt ks ds =>
        obtain ⟨us, e2, hk, ru⟩ := q
        exact ⟨us, by rw [ae vJ]; exact e2, hk, ru.len, fun i w d p q => (ru.at' i w d p q).ey y⟩
    · obtain ⟨ps, e2, t⟩ := m.tabs p hp
      exact ⟨ps, by rw [ae (nd _ _ e2 rfl)]; exact e2, t⟩
    · obtain ⟨v, e2, n⟩ := m.hids b hb
      have vJ : b ≠ a := fun z => fz.2 (by rw [← z]; exact hb)
      exact ⟨v, by rw [ae vJ]; exact e2, n⟩
    · exact (m.lams p hp).keep (fun ps e2 => by rw [ae (nd _ _ e2 rfl)]; exact e2) fun c oc v e2 => by rw [ae (nd _ _ e2 rfl)]; exact e2
noncomputable def jR : Key → Dv
  | .inl i => .int i
  | .inr z => .str z
noncomputable def ziKeys (p : aJ) : eJ := fun ρ M R => p ρ M fun d M1 => match d with | .dk ks _ => R (ks.map jR) M1 | .dt ks _ => R (ks.map fun k => .tup (k.map jR)) M1 | _ => False
section
variable {X : Cx} {Γ : Gz} {β : Bz} {M : Mh} {H : Hp} {tg l : Expr} {p : aJ}
theorem HM (k : Key) : Rz β M H (kV k) (jR k) := by
  cases k with
  | inl i => exact .int i
  | inr z => exact .str z
theorem tW (ks : List Key) : aD β M H (ks.map kV) (ks.map jR) := ⟨by simp, fun i v d a b => by
  rw [List.getElem?_map] at a b
  cases e : ks[i]? with
  | none => rw [e] at a; cases a
  | some k => rw [e] at a b; cases a; cases b; exact HM k⟩
theorem vK {α γ : Type} : ∀ {ks : List α} {vs : List γ}, ks.length = vs.length → (ks.zip vs).map (·.1) = ks
  | [], [], _ => rfl
  | k :: ks, v :: vs, h => by rw [List.zip_cons_cons, List.map_cons, vK (by simpa using h)]
noncomputable def ziItems (p : aJ) : eJ := fun ρ M R => p ρ M fun d M1 => match d with | .dk ks ds => R (c9 (ks.map jR) ds) M1 | .dt ks ds => R (c9 (ks.map fun k => .tup (k.map jR)) ds) M1 | _ => False
theorem o8 {a : Addr} {o : Obj} {u : HO} {ps : List (V × V)} (h : H a = some (.bD o u)) : wN (HJ a o u ps) ps H := fun i => ⟨fun hi => ⟨⟨h, hi⟩, fun v H' ⟨t, p, h1, h2, h3, h4⟩ => ⟨t, p, h1, h2, h3, h4⟩⟩, fun hi => ⟨h, hi⟩⟩
theorem vL {α γ : Type} : ∀ {ks : List α} {vs : List γ}, ks.length = vs.length → (ks.zip vs).map (·.2) = vs
  | [], [], _ => rfl
  | k :: ks, v :: vs, h => by rw [List.zip_cons_cons, List.map_cons, vL (by simpa using h)]
theorem zV : ∀ (ks : List Key) (vs : List V), ((ks.zip vs).map fun kv => (kV kv.1, kv.2)) = (ks.map kV).zip vs
  | [], _ => rfl
  | _ :: _, [] => rfl
  | k :: ks, v :: vs => by rw [List.zip_cons_cons, List.map_cons, List.map_cons, List.zip_cons_cons, zV ks vs]
theorem B3 {ks : List (List Key)} {vs : List V} {bs : List Addr} (m : Mz β M H) (hk : ks.length = vs.length) (hb : bs.length = (ks.zip vs).length) (g9 : ∀ (i : Nat) (b : Addr) (kv : List Key × V), bs[i]? = some b → (ks.zip vs)[i]? = some kv → H b = some (.tup (kv.1.map kV))) : aD β M H (bs.map V.ref) (ks.map fun k => .tup (k.map jR)) := by
  have hz : (ks.zip vs).length = ks.length := by rw [List.length_zip, ← hk, Nat.min_self]
  refine ⟨by rw [List.length_map, List.length_map, hb, hz], fun i v d ha hd => ?_⟩
  rw [List.getElem?_map, Option.map_eq_some_iff] at ha hd
  obtain ⟨b, Kr, rfl⟩ := ha
  obtain ⟨k, KY, rfl⟩ := hd
  have tL : i < (ks.zip vs).length := by rw [hz]; exact (List.getElem?_eq_some_iff.mp KY).1
  have rn := List.getElem?_eq_getElem tL
  have ht := g9 i b _ Kr rn
  have ek : ((ks.zip vs)[i]).1 = k := by
    have : ((ks.zip vs).map (·.1))[i]? = some ((ks.zip vs)[i]).1 := by rw [List.getElem?_map, rn]; rfl
    rw [vK hk, KY] at this
    exact (Option.some.inj this).symm
  rw [ek] at ht
  exact lz ⟨m.j0 ht rfl, fun z => by
    obtain ⟨w, hw, n⟩ := m.hids b z
    rw [ht] at hw
    cases hw
    cases n⟩ ht (tW k)
theorem B4 {elts : List Expr} {x1 : Nat} {tp apos aW : Pos} (hl : QE Γ X l p) (hb : attributeBase l "items" X.env (eval l X.env) = eval l X.env := by rfl) (hn : (apos.endLine == aW.line) = true := by rfl) :
    QI Γ X (.Tuple elts x1 tp) (.Call (.Attribute l "items" apos) [] [] aW) (ziItems p) := (B2 hl hb hn).imp fun σ H R ⟨β, ρ, M, R', zr, h, q⟩ => ⟨β, ρ, M, _, zr, h, fun d M1 v H1 x1 r1 h1 => by
  revert h1
  split
  · intro h1
    rename_i ks ds
    cases r1 with
    | @dk a _ vs _ f e hk hl hh =>
      refine ⟨a, .dK (ks.zip vs), rfl, rfl, e, fun o H2 ps g HN => ?_⟩
      have x2 := Ex.bD x1.mz g f
      have rv : aD β M1 H1 vs ds := ⟨hl, hh⟩
      cases HN
      rw [zV]
      exact q _ _ _ _ (x1.trans x2) (jB (tW ks) (rv.ex x2) fun M' H' x => o8 (x.get f.1 g.at rfl)) h1
  · intro h1
    rename_i ks ds
    cases r1 with
    | @dt a _ vs _ f e hk hl hh =>
      refine ⟨a, .dT (ks.zip vs), rfl, rfl, e, fun o H2 ps g HN => ?_⟩
      have x2 := Ex.bD x1.mz g f
      have rv : aD β M1 H1 vs ds := ⟨hl, hh⟩
      cases HN with
      | t _ bs hb g9 =>
        rw [vL hk]
        exact q _ _ _ _ (x1.trans x2) (jB ((B3 x1.mz hk hb g9).ex x2) (rv.ex x2) fun M' H' x => o8 (x.get f.1 g.at rfl)) h1
  · exact fun h => h.elim⟩
end
section
variable {Γ : Gz} {X : Cx} {K : PySem.W.Frag}
noncomputable def zCatLP : dP := fun d e M Q => match d, e with | .lst ds, .lst es => ds.length + es.length ≤ sizeLine ∧ ∀ a, M a = none → Q (.ptr a) (ax M a (.lst (ds ++ es))) | _, _ => False
theorem Es (hK : X.K = K) : dQ Γ X (binaryOp .Add) zCatLP := ⟨_, F4, fun β x y d e M H Q Q' _ _ _ m rx ry z q => by
  unfold zCatLP at z
  split at z
  · obtain ⟨a, vs, rfl, f, ha, rs⟩ := fT rx
    obtain ⟨b, us, rfl, f2, hb, fU⟩ := fT ry
    refine ⟨a, b, vs, us, rfl, rfl, ha, hb, by rw [rs.len, fU.len]; exact z.1, fun p hp => ?_⟩
    have x2 := Ex.own m (.inr hp) (rs.append fU)
    exact q _ _ _ _ x2 (.ptr (by rw [updM_same]; rfl)) (z.2 p (m.free hp))
  · exact z.elim⟩
end
theorem fH {g : cG} {te : aJ} (J : List Dv → aA → Mh → Prop) : ∀ {ds acc : List Dv} {τ : aA} {M : Mh} {Q : List Dv → Mh → Prop}, J acc τ M →
    (∀ i d iq τ M, ds[i]? = some d → iq.length = acc.length + i → J iq τ M → ∀ R : aA → ZK, (∀ y aC M2, J (iq ++ [y]) aC M2 → R aC y M2) → g d τ M fun aC M2 => te aC M2 (R aC)) →
    (∀ ys τ M, ys.length = ds.length → J (acc ++ ys) τ M → Q ys M) → iu g zNoIf te ds τ M Q
  | [], acc, τ, M, Q, j, _, q => q [] τ M rfl (by rw [List.append_nil]; exact j)
  | d :: ds, acc, τ, M, Q, j, h, q => by
    refine h 0 d acc τ M rfl rfl j (fun aC y M4 => iu g zNoIf te ds aC M4 fun ys M5 => Q (y :: ys) M5) fun y aC M2 j2 => ?_
    refine fH J (acc := acc ++ [y]) j2 (fun i d' iq cj M' e1 e2 j' R hR => ?_) fun ys lL M3 e3 j3 => ?_
    · exact h (i + 1) d' iq cj M' e1 (by rw [e2, List.length_append]; simp; omega) j' R hR
    · exact q (y :: ys) lL M3 (by simp [e3]) (by rw [List.append_assoc] at j3; exact j3)
section
variable {X : Cx} {Γ : Gz} {tg elt iter : Expr} {ifs : List Expr} {scope : Scope} {pos : Pos} {N' : List Str} {tn : Nat} {idx : List Nat}
theorem tX {zi : eJ} {g : cG} {tt : cQ} {te : aJ} {i : Nat} {y : Str} {py iY : Pos} (hN : X.N.Nodup) (d6 : X.N[i]? = some y) (hy : X.env.scope.names.lookup y = some .local) (hc : X.calm = true) (B : dy X.N X.env.scope scope N' tn idx) (hi : QI Γ X tg iter zi)
    (hg : kq X N' scope fun Y => QG Γ Y tg g) (ht : kq X N' scope fun Y => qX Γ Y ifs tt) (he : kq X N' scope fun Y => QE Γ Y elt te)
    (sy : swapsWith (.ListComp elt [⟨tg, iter, ifs, 0⟩] scope pos) (some (.Name y py)) iY.line X.env = pure true := by rfl)
    (hs : ∀ x, foldedSetIterable iter X.env x = pure x := by intro _; rfl) : QS Γ X (.Assign [.Name y py] (.ListComp elt [⟨tg, iter, ifs, 0⟩] scope pos) iY) (zAsg (zCompP tn idx zi g tt te) (zgName i)) := (uQ hN d6 hy hc B hi hg ht he sy hs).imp fun D σ H h => wU (fun _ _ _ h => pU h) h
end
theorem o9 {a1 r : cy} {D : gq} {ρ : aA} {M : Mh} (I : aA → Mh → Prop) (h1 : ∀ N : aA → Mh → Prop, (∀ ρ M, I ρ M → N ρ M) → a1 { D with nx := N } ρ M) (h2 : ∀ ρ M, I ρ M → r D ρ M) : (zSeq a1 r) D ρ M := h1 _ h2
theorem JM {a1 a2 r : cy} {D : gq} {ρ : aA} {M : Mh} (I : aA → Mh → Prop) (h1 : ∀ N : aA → Mh → Prop, (∀ ρ M, I ρ M → N ρ M) → (zSeq a1 a2) { D with nx := N } ρ M) (h2 : ∀ ρ M, I ρ M → r D ρ M) : (zSeq a1 (zSeq a2 r)) D ρ M := h1 _ h2
theorem JN {a1 a2 a3 a4 r : cy} {D : gq} {ρ : aA} {M : Mh} (I : aA → Mh → Prop) (h1 : ∀ N : aA → Mh → Prop, (∀ ρ M, I ρ M → N ρ M) → (zSeq a1 (zSeq a2 (zSeq a3 a4))) { D with nx := N } ρ M) (h2 : ∀ ρ M, I ρ M → r D ρ M) : (zSeq a1 (zSeq a2 (zSeq a3 (zSeq a4 r)))) D ρ M := h1 _ h2
theorem JO {a1 a2 a3 a4 a5 a6 a7 a8 r : cy} {D : gq} {ρ : aA} {M : Mh} (I : aA → Mh → Prop) (h1 : ∀ N : aA → Mh → Prop, (∀ ρ M, I ρ M → N ρ M) → (zSeq a1 (zSeq a2 (zSeq a3 (zSeq a4 (zSeq a5 (zSeq a6 (zSeq a7 a8))))))) { D with nx := N } ρ M) (h2 : ∀ ρ M, I ρ M → r D ρ M) : (zSeq a1 (zSeq a2 (zSeq a3 (zSeq a4 (zSeq a5 (zSeq a6 (zSeq a7 (zSeq a8 r)))))))) D ρ M := h1 _ h2
section
variable {β : Bz} {M M' : Mh} {H H' : Hp} {a : Addr} {o o' o2 nq : Mo}
theorem Rz.dom (hd : ∀ a, (M a).isSome = (M' a).isSome) {v : V} {d : Dv} (r : Rz β M H v d) : Rz β M' H v d :=
  r.mK (M0 := M') (fun a h => by rw [hd a]; exact h) (r.pin.mono fun a h => by rw [← hd a]; exact h)
theorem ia.dom (hd : ∀ a, (M a).isSome = (M' a).isSome) (h : ia β M H a o) : ia β M' H a o := by
  cases o with
  | lst ds => obtain ⟨vs, h1, rs⟩ := h; exact ⟨vs, h1, rs.len, fun i v d x y => (rs.at' i v d x y).dom hd⟩
  | c6 => exact h
  | dk ks ds => obtain ⟨vs, h1, h2, rs⟩ := h; exact ⟨vs, h1, h2, rs.len, fun i v d x y => (rs.at' i v d x y).dom hd⟩
  | dt ks ds => obtain ⟨vs, h1, h2, rs⟩ := h; exact ⟨vs, h1, h2, rs.len, fun i v d x y => (rs.at' i v d x y).dom hd⟩
theorem iP (M : Mh) (a : Addr) (o o2 : Mo) (b : Addr) : (ax M a o b).isSome = (ax M a o2 b).isSome := by
  by_cases e : b = a
  · subst e; rw [updM_same, updM_same]; rfl
  · rw [aj e, aj e]
theorem jH {b : Addr} (o2 : Mo) (h : ax M a o b = none) : ax M a o2 b = none := by
  by_cases e : b = a
  · subst e; rw [updM_same] at h; cases h
  · rw [aj e] at h ⊢; exact h
theorem Mz.chg (m : Mz β (ax M a o) H) (h2 : ia β (ax M a o2) H a o2) : Mz β (ax M a o2) H := by
  refine ⟨fun b u e => ?_, m.tabs, m.hids, fun b u e => ?_, m.lams⟩
  · by_cases z : b = a
    · subst z; rw [updM_same] at e; cases e; exact h2
    · rw [aj z] at e
      exact ia.dom (iP M a o o2) (m.obj b u (by rw [aj z]; exact e))
  · by_cases z : b = a
    · subst z; exact m.apart b o updM_same
    · rw [aj z] at e
      exact m.apart b u (by rw [aj z]; exact e)
theorem vM (h : M a = some o) : ax M a o = M := by
  funext b
  by_cases e : b = a
  · subst e; rw [updM_same, h]
  · rw [aj e]
theorem Ex.chg (x : Ex β (ax M a o) H (ax M a o') H') (h2 : ia β (ax M a nq) H' a nq) : Ex β (ax M a o2) H (ax M a nq) H' :=
  ⟨⟨fun b u h e => x.keep b u (jH o h) e, fun b h => by rw [iP M a nq o']; exact x.dom b (by rw [iP M a o o2]; exact h), fun b u h e => jH nq (x.new b u (jH o h) e)⟩, x.mz.chg h2⟩
theorem Ex.sealed (hn : M a = none) (x : Ex β M H (ax M a o') H') (h2 : ia β (ax M a nq) H' a nq) : Ex β M H (ax M a nq) H' :=
  ⟨⟨x.keep, fun b h => by rw [iP M a nq o']; exact x.dom b h, fun b u h e => jH nq (x.new b u h e)⟩, x.mz.chg h2⟩
theorem zW {c m : Int} (z : Mz β (ax M a (.lst [.int c, .int m])) H) (hc : 0 ≤ c) (hm : 0 ≤ m) : ia β (ax M a .c6) H a .c6 := by
  obtain ⟨vs, h, rs⟩ := z.obj a _ updM_same
  refine ⟨c, m, ?_, hc, hm⟩
  have := nO (ns := [c, m]) rs
  rw [h, this]
  rfl
theorem HP (z : Mz β (ax M a .c6) H) : ∃ c m : Int, 0 ≤ c ∧ 0 ≤ m ∧ ia β (ax M a (.lst [.int c, .int m])) H a (.lst [.int c, .int m]) := by
  obtain ⟨c, m, h, hc, hm⟩ := z.obj a _ updM_same
  exact ⟨c, m, hc, hm, _, h, nQ (ns := [c, m])⟩
end
section
variable {X : Cx} {Γ : Gz} {K : PySem.W.Frag}
noncomputable def zIxS : dP := fun d e M Q => match d, e with | .bq ns, .int i => (match cZ ns i with | some x => Q (.int x) M | none => False) | _, _ => False
theorem C7 (hK : X.K = K) (hG : K = Γ.K) : Hb Γ X zIxS := ⟨_, vf hK, fun β x y d e M H Q Q' _ _ eK m rx ry z q => by
  unfold zIxS at z
  split at z
  · rename_i ns i
    split at z
    · rename_i v hv
      obtain ⟨a, rfl, hS⟩ := qU rx
      rw [eK, ← hG] at hS
      exact .inl ⟨a, _, i, .int v, rfl, aK ry, hS, Ee hv, q _ _ _ _ (.refl m) (.int _) z⟩
    · exact z.elim
  · exact z.elim⟩
end
noncomputable def nu (k : Nat) : Str := ⟨#[97 + k]⟩
theorem qf (k : Nat) : (nu k).length = 1 := rfl
theorem xm (a b : Str) : (a ++ b).length = a.length + b.length := by
  show (a.cps ++ b.cps).size = a.cps.size + b.cps.size
  exact Array.size_append
section
variable {κ : Type} [DecidableEq κ]
theorem kN : ∀ (ks U : List κ), ks.Nodup → (∀ k ∈ ks, k ∈ U) → ks.length ≤ U.length
  | [], _, _, _ => Nat.zero_le _
  | k :: ks, U, nd, h => by
    have hn := List.nodup_cons.mp nd
    have hk := h k List.mem_cons_self
    have ih := kN ks (U.erase k) hn.2 fun x hx => (List.mem_erase_of_ne (fun e => hn.1 (by rw [← e]; exact hx))).mpr (h x (List.mem_cons_of_mem _ hx))
    rw [List.length_erase_of_mem hk] at ih
    have := List.length_pos_of_mem hk
    rw [List.length_cons]
    omega
noncomputable def gr (step : κ → Nat → κ) (met : κ) (w : Str) (st : List κ × List Str) (a : Nat) : List κ × List Str := if step met a ∈ st.1 then st else (st.1 ++ [step met a], st.2 ++ [w ++ nu a])
noncomputable def visit (step : κ → Nat → κ) (met : κ) (w : Str) (n : Nat) (st : List κ × List Str) : List κ × List Str := (List.range n).foldl (gr step met w) st
noncomputable def gH (step : κ → Nat → κ) (n most : Nat) : Nat → Nat → List κ × List Str → List κ × List Str
  | 0, _, st => st
  | fuel + 1, i, st => match st.1[i]?, st.2[i]? with
    | some met, some w => if st.1.length ≤ most then gH step n most fuel (i + 1) (visit step met w n st) else st
    | _, _ => st
structure dY (U : List κ) (st : List κ × List Str) : Prop where
  len : st.1.length = st.2.length
  nd : st.1.Nodup
  sub : ∀ k ∈ st.1, k ∈ U
  wl : ∀ (i : Nat) (w : Str), st.2[i]? = some w → w.length ≤ i
theorem dY.le {U : List κ} {st : List κ × List Str} (o : dY U st) : st.1.length ≤ U.length := kN _ _ o.nd o.sub
theorem gu (step : κ → Nat → κ) (met : κ) (w : Str) (n : Nat) (st : List κ × List Str) : visit step met w (n + 1) st = gr step met w (visit step met w n st) n := by
  unfold visit
  rw [List.range_succ, List.foldl_append]
  rfl
theorem rp (step : κ → Nat → κ) (met : κ) (w : Str) (st : List κ × List Str) (a : Nat) : ∃ ks ws, (gr step met w st a).1 = st.1 ++ ks ∧ (gr step met w st a).2 = st.2 ++ ws := by
  unfold gr
  split
  · exact ⟨[], [], by simp, by simp⟩
  · exact ⟨_, _, rfl, rfl⟩
theorem eX (step : κ → Nat → κ) (met : κ) (w : Str) (n : Nat) (st : List κ × List Str) : ∃ ks ws, (visit step met w n st).1 = st.1 ++ ks ∧ (visit step met w n st).2 = st.2 ++ ws := by
  induction n with
  | zero => exact ⟨[], [], by simp [visit], by simp [visit]⟩
  | succ n ih =>
    obtain ⟨ks, ws, h1, h2⟩ := ih
    rw [gu]
    obtain ⟨rl, tY, h3, h4⟩ := rp step met w (visit step met w n st) n
    exact ⟨ks ++ rl, ws ++ tY, by rw [h3, h1, List.append_assoc], by rw [h4, h2, List.append_assoc]⟩
theorem iQ {α : Type} {l m : List α} {i : Nat} {x : α} (h : l[i]? = some x) : (l ++ m)[i]? = some x := by
  rw [List.getElem?_append_left (List.getElem?_eq_some_iff.mp h).1]; exact h
theorem dY.gr {U : List κ} {step : κ → Nat → κ} {st : List κ × List Str} (o : dY U st) {i a : Nat} {met : κ} {w : Str} (hw : st.2[i]? = some w) (hs : step met a ∈ U) : dY U (L2.gr step met w st a) := by
  unfold L2.gr
  split
  · exact o
  · rename_i hn
    refine ⟨by simp [o.len], ?_, fun k hk => ?_, fun j v hj => ?_⟩
    · rw [List.nodup_append]
      refine ⟨o.nd, by simp, fun x hx y hy e => ?_⟩
      rw [List.mem_singleton] at hy
      subst e
      exact hn (hy ▸ hx)
    · rcases List.mem_append.mp hk with z | z
      · exact o.sub k z
      · rw [List.mem_singleton] at z; rw [z]; exact hs
    · by_cases h : j < st.2.length
      · rw [List.getElem?_append_left h] at hj
        exact o.wl j v hj
      · rw [List.getElem?_append_right (by omega)] at hj
        have e : j - st.2.length = 0 := by
          have := (List.getElem?_eq_some_iff.mp hj).1
          simp at this; omega
        rw [e] at hj
        cases hj
        have h1 := o.wl i w hw
        have h2 := (List.getElem?_eq_some_iff.mp hw).1
        rw [xm, qf]
        omega
theorem dY.visit {U : List κ} {step : κ → Nat → κ} {st : List κ × List Str} (o : dY U st) {i n : Nat} {met : κ} {w : Str} (hw : st.2[i]? = some w) (hs : ∀ a, a < n → step met a ∈ U) : dY U (L2.visit step met w n st) := by
  induction n with
  | zero => exact o
  | succ n ih =>
    rw [gu]
    obtain ⟨ks, ws, h1, h2⟩ := eX step met w n st
    exact (ih fun a ha => hs a (by omega)).gr (i := i) (by rw [h2]; exact iQ hw) (hs n (by omega))
noncomputable def met (step : κ → Nat → κ) (n most N : Nat) (s : κ) : List κ × List Str := gH step n most (N + 1) 0 ([s], [""])
theorem lV {U : List κ} {s : κ} (h : s ∈ U) : dY U ([s], [("" : Str)]) := ⟨rfl, by simp, fun k hk => by rw [List.mem_singleton] at hk; rw [hk]; exact h, fun i w e => by
  cases i with
  | zero => cases e; exact Nat.le_refl 0
  | succ i => simp at e⟩
theorem zX {U : List κ} {step : κ → Nat → κ} {n most : Nat} (hs : ∀ k ∈ U, ∀ a, a < n → step k a ∈ U) : ∀ (fuel i : Nat) (st : List κ × List Str), dY U st → dY U (gH step n most fuel i st)
  | 0, _, st, o => o
  | fuel + 1, i, st, o => by
    unfold gH
    split
    · rename_i k w h1 h2
      split
      · exact zX hs fuel (i + 1) _ (o.visit h2 fun a ha => hs k (o.sub k (List.mem_of_getElem? h1)) a ha)
      · exact o
    · exact o
theorem tZ {step : κ → Nat → κ} {n most fuel i : Nat} {st : List κ × List Str} {k : κ} {w : Str} (h1 : st.1[i]? = some k) (h2 : st.2[i]? = some w) (h3 : st.1.length ≤ most) : gH step n most (fuel + 1) i st = gH step n most fuel (i + 1) (visit step k w n st) := by
  rw [gH]
  simp only [h1, h2, if_pos h3]
theorem vN : ∀ {ks : List κ} {ws : List Str} {i : Nat} {k : κ} {w : Str}, ks.Nodup → ks[i]? = some k → ws[i]? = some w → look ks ws k = some w
  | [], _, _, _, _, _, h, _ => by simp at h
  | _ :: _, [], _, _, _, _, _, h => by simp at h
  | c :: ks, v :: ws, 0, k, w, _, h1, h2 => by
    simp at h1 h2
    unfold look
    rw [if_pos h1, h2]
  | c :: ks, v :: ws, i + 1, k, w, nd, h1, h2 => by
    have hn := List.nodup_cons.mp nd
    have h1 : ks[i]? = some k := by simpa using h1
    unfold look
    rw [if_neg (fun e => hn.1 (by rw [e]; exact List.mem_of_getElem? h1))]
    exact vN hn.2 h1 (by simpa using h2)
theorem t5 {C8 : Type} [DecidableEq C8] {f : κ → C8} (hf : ∀ a b, f a = f b → a = b) (x : κ) : ∀ (ks : List κ) (ws : List Str), look (ks.map f) (ws.map Dv.str) (f x) = (look ks ws x).map Dv.str
  | [], ws => by cases ws <;> rfl
  | _ :: _, [] => rfl
  | k :: ks, w :: ws => by
    rw [List.map_cons, List.map_cons]
    unfold look
    by_cases e : k = x
    · rw [if_pos e, if_pos (by rw [e])]; rfl
    · rw [if_neg e, if_neg (fun z => e (hf _ _ z))]
      exact t5 hf x ks ws
theorem Et {α : Type} {ks : List κ} {ds : List α} {k : κ} {d : α} (h : k ∉ ks) : putL ks k = ks ++ [k] ∧ fF ks ds k d = ds ++ [d] := by
  unfold putL fF
  rw [if_neg h, if_neg h]
  exact ⟨rfl, rfl⟩
theorem uR {C8 : Type} {f : κ → C8} (hf : ∀ a b, f a = f b → a = b) {x : κ} {ks : List κ} : f x ∈ ks.map f ↔ x ∈ ks := by
  constructor
  · intro h
    obtain ⟨y, hy, e⟩ := List.mem_map.mp h
    rw [← hf _ _ e]; exact hy
  · exact fun h => List.mem_map_of_mem h
theorem zY {ks : List κ} {ws : List Str} (h : ks.length = ws.length) (x : κ) : (look ks ws x).isSome = decide (x ∈ ks) := by
  cases q : look ks ws x with
  | none => rw [decide_eq_false ((ik h).mp q)]; rfl
  | some w =>
    have : x ∈ ks := Classical.byContradiction fun z => by rw [(ik h).mpr z] at q; cases q
    rw [decide_eq_true this]; rfl
end
theorem vO {k : Nat} (h : k < 3) : cZ ("abc" : Str).cps.toList ((k : Nat) : Int) = some (97 + k) := by
  have : k = 0 ∨ k = 1 ∨ k = 2 := by omega
  rcases this with rfl | rfl | rfl <;> decide +kernel
theorem kz {α : Type} {l : List α} {i : Nat} {x : α} (h : l[i]? = some x) : l.drop i = x :: l.drop (i + 1) := by
  obtain ⟨hi, e⟩ := List.getElem?_eq_some_iff.mp h
  rw [List.drop_eq_getElem_cons hi, e]
end L2
open PySem L2 PyProof.Rows
local macro_rules | `(tactic| simp! only [$xs,*] $[$l]?) => `(tactic| simp only [zVar, zC, zOp, zII, zIC, zEq, zNe, scalZ, zIsN, isNonD, zSS, zTest, zBool, zChain, zAnd, zOr, zNot, zAndV, zNotV, zNil, zCons, zTup, zLst, zLstP, zCB, z1, zLenD, z2I, zAbs, zList, zTuple, zSorted, zSet, intsM, itemsM, zIsInst, isD, zBM, tyZ, zAppend, zPop, zPopAt, zSetI, zgSub, zNext, zSeq, zDrop, zRet, zIfS, zgName, zgNil, zgCons, zgTup, zAsg, zFor, zForM, zComp, zCompP, zAll, zSetC, zBlock, zCall, zRaise, zstart, zEndsOf, ziTup, ziLst, ziRng1, ziRng2, ziEnumK, ziKeys, ziItems, zIx, zRangeP, zTruth, truD, zNoIf, zGetR, zDIn, lookD, nowK, keyD, zDisp1K, zDisp1T, zDPut, zLenT, zCatLP, zIxS, zCallL, List.getElem?_cons_zero, List.getElem?_cons_succ, List.map_cons, List.map_nil, List.nil_append, List.cons_append, List.length_cons, List.length_nil, List.replicate_succ, List.replicate_zero, List.set_cons_zero, List.set_cons_succ, Option.join_some, Nat.reduceAdd, Nat.reduceSub, Nat.sub_self, Nat.zero_add, if_true, if_false, Bool.false_eq_true, Bool.not_true, Bool.not_false, true_and, and_true, beq_self_eq_true, String.reduceBEq, zLoop, List.length_map, List.length_set, updM_same, updM_updM, List.append_nil, Int.zero_add, Int.toNat_natCast, rangeD_len, pairsD_len, Nat.min_self, atI_zero, decide_true, decide_false, Bool.not_eq_true, bne_self_eq_false, $xs,*] $[$l]?)
local macro_rules | `(tactic| dsimp! only [$xs,*] $[$l]?) => `(tactic| simp only [zVar, zC, zOp, zII, zIC, zEq, zNe, scalZ, zIsN, isNonD, zSS, zTest, zBool, zChain, zAnd, zOr, zNot, zAndV, zNotV, zNil, zCons, zTup, zLst, zLstP, zCB, z1, zLenD, z2I, zAbs, zList, zTuple, zSorted, zSet, intsM, itemsM, zIsInst, isD, zBM, tyZ, zAppend, zPop, zPopAt, zSetI, zgSub, zNext, zSeq, zDrop, zRet, zIfS, zgName, zgNil, zgCons, zgTup, zAsg, zFor, zForM, zComp, zCompP, zAll, zSetC, zBlock, zCall, zRaise, zstart, zEndsOf, ziTup, ziLst, ziRng1, ziRng2, ziEnumK, ziKeys, ziItems, zIx, zRangeP, zTruth, truD, zNoIf, zGetR, zDIn, lookD, nowK, keyD, zDisp1K, zDisp1T, zDPut, zLenT, zCatLP, zIxS, zCallL, List.getElem?_cons_zero, List.getElem?_cons_succ, List.map_cons, List.map_nil, List.nil_append, List.cons_append, List.length_cons, List.length_nil, List.replicate_succ, List.replicate_zero, List.set_cons_zero, List.set_cons_succ, Option.join_some, Nat.reduceAdd, Nat.reduceSub, Nat.sub_self, Nat.zero_add, if_true, if_false, Bool.false_eq_true, Bool.not_true, Bool.not_false, true_and, and_true, beq_self_eq_true, String.reduceBEq, List.length_map, List.length_set, updM_same, updM_updM, List.append_nil, Int.zero_add, Int.toNat_natCast, rangeD_len, pairsD_len, Nat.min_self, atI_zero, decide_true, decide_false, Bool.not_eq_true, bne_self_eq_false, $xs,*] $[$l]?)
namespace My
open PySem L2 PyProof.Rows
noncomputable def top (i : Nat) : Stmt := PySem.Challenge.pw_roadcall_k25_pairs_called.main.body.getD i (.Pass ⟨0, 0, 0, 0⟩)
noncomputable abbrev dq : Stmt := top 5
noncomputable abbrev bQ : Stmt := top 6
noncomputable abbrev jj : Stmt := top 10
noncomputable abbrev jk : Stmt := top 11
noncomputable abbrev iJ : Stmt := top 12
noncomputable abbrev iK : Stmt := top 13
noncomputable abbrev gX : Stmt := top 16
noncomputable abbrev jl : Stmt := top 18
noncomputable abbrev jI : Stmt := top 19
noncomputable abbrev dH : Stmt := top 20
noncomputable abbrev aB : Stmt := top 21
noncomputable abbrev gy : Stmt := top 22
noncomputable abbrev gY : Stmt := top 24
noncomputable abbrev jJ : Stmt := top 25
noncomputable abbrev iL : Stmt := top 27
noncomputable abbrev fq : Stmt := top 28
noncomputable abbrev eR : Stmt := top 29
noncomputable abbrev b7 : Stmt := top 30
noncomputable abbrev dD : Stmt := top 31
noncomputable abbrev gz : Stmt := top 32
noncomputable abbrev xn : Stmt := top 33
section
variable {P : Program} {w : World} {K : PySem.W.Frag} {mg : Str → Option Value} {base : Heap} {tb : cP} {k : Nat} {f : Addr} {fd : FuncData} {ps : List Str}
theorem dA : aQ ["_law_script", "_law_at", "_law_cell", "_law_mix", "_law_k"] ["_law_script", "_law_at"] (ai iL) := ⟨rfl, rfl, rfl, by decide +kernel, rfl, by decide +kernel, by decide +kernel⟩
theorem dI : aQ ["_law_bag_here", "_law_many", "_law_digit", "_law_number", "_law_room"] ["_law_bag_here", "_law_many"] (ai fq) := ⟨rfl, rfl, rfl, by decide +kernel, rfl, by decide +kernel, by decide +kernel⟩
theorem kO : aQ ["_law_bag_here", "_law_many", "_law_free"] ["_law_bag_here", "_law_many"] (ai eR) := ⟨rfl, rfl, rfl, by decide +kernel, rfl, by decide +kernel, by decide +kernel⟩
theorem bf : aQ ["_law_bag_here", "_law_most", "_law_many", "_law_ways", "_law_kind", "_law_rows", "_law_order_here", "_law_period", "_law_stays", "_law_k", "_law_place", "_law_onward", "_law_goals", "_law_turns"] ["_law_bag_here", "_law_most"] (ai b7) := ⟨rfl, rfl, rfl, by decide +kernel, rfl, by decide +kernel, by decide +kernel⟩
noncomputable def HQ : cI := fun ds M Q _ => ∃ (ns : List Int) (t : Int), ds = [.bq ns, .int t] ∧ ns.length ≤ 63 ∧ 0 ≤ t ∧ t ≤ 63 ∧ ∀ b, M b = none → Q (.ptr b) (ax M b .c6)
noncomputable def C9 : cI := fun ds M Q _ => ∃ (ns : List Int) (t : Int), ds = [.bq ns, .int t] ∧ ns.length ≤ 63 ∧ 0 ≤ t ∧ t ≤ 63 ∧ ∀ b c m, M b = none → 0 ≤ c → 0 ≤ m → Q (.ptr b) (ax M b (.lst [.int c, .int m]))
theorem xo (D : Df K mg "_law_bag" iL ["_law_script", "_law_at"] f fd) (bl : Bl mg) : FnOk P w K mg base bt 1 f fd ["_law_script", "_law_at"] (bz P w K tb C9) := by
  refine eQ D dA (fun ds M Q E hS => by obtain ⟨ns, t, e, _⟩ := hS; rw [e]; rfl) fun A outer s E Γ ds Q' E' hP hw hK ht hr hS => ?_
  obtain ⟨ns, t, e, hl, t0, t1, q⟩ := hS
  refine ⟨_, (ak (aN (i := 2) dA.nd rfl (Or.inl rfl) aw)
    (ak (cL (a9 pV (qv 1) (aH (dX (K := K) rfl hK) rfl bl.len_ PySem.boot_len (aa (qv 0) ah)) (bE _))
      (av (aN (i := 2) dA.nd rfl (Or.inl rfl) (aH JF rfl bl.abs_ Gi (aa (bC (C7 (K := K) rfl hK) (qv 0) (qv 1) (fun _ _ => rfl)) ah))))
      qss_nil)
    (ak (aN (i := 3) dA.nd rfl (Or.inl rfl) (aY gV (aY mI aw (qv 1)) aw))
    (ak (eO PassesOwn.never rfl (bN rfl bl.range_ (aa (aH (tE rfl) rfl bl.min_ sG (aa (aH (dX (K := K) rfl hK) rfl bl.len_ PySem.boot_len (aa (qv 0) ah)) (aa aw ah))) ah)) (fun nv eP ew eK et => by have hP := hP.trans eP.symm; have hw := hw.trans ew.symm; have hK := hK.trans eK.symm; have ht := ht.trans et.symm; exact ⟨(aR (i := 4) dA.nd rfl (Or.inl rfl)), (av (aN (i := 3) dA.nd rfl (Or.inl rfl) (aY iH (aY gV (aY gV (aY mI (qv 3) aw) (aY iH (bC (C7 (K := K) rfl hK) (qv 0) (qv 4) (fun _ _ => rfl)) aw)) (qv 4)) aw)))⟩))
    (ak (cL (a9 pV (qv 2) (aY JB aw aw) (bE _))
      (av (aN (i := 2) dA.nd rfl (Or.inl rfl) aw))
      qss_nil)
    (av (aX (mG (aa (qv 2) (aa (qv 3) ah)))))))))), ?_⟩
  subst e
  refine JN (fun ρ M => M = Γ.M0 ∧ ∃ c m x : Int, ∃ x4, 0 ≤ c ∧ 0 ≤ m ∧ ρ = [some (.bq ns), some (.int t), some (.int c), some (.int m), x4]) (fun N hN => ?_) ?_
  · refine JM (fun ρ M => M = Γ.M0 ∧ ∃ c : Int, 0 ≤ c ∧ ρ = [some (.bq ns), some (.int t), some (.int c), none, none]) (fun N hN => ?_) ?_
    · simp! only []
      refine dB (fun h => ?_) (fun _ => hN _ _ ⟨rfl, 0, by omega, rfl⟩)
      have ht : t < (ns.length : Int) := of_decide_eq_true h
      obtain ⟨k, rfl⟩ := Int.eq_ofNat_of_zero_le t0
      rw [zA (show k < ns.length by omega)]
      exact hN _ _ ⟨rfl, _, by split <;> omega, rfl⟩
    rintro ρ M ⟨rfl, c, hc, rfl⟩
    simp! only []
    refine ⟨.inl ⟨by decide, by decide⟩, by split <;> omega, by split <;> omega, ?_⟩
    refine cV (fun i ρ M => M = Γ.M0 ∧ ∃ m : Int, ∃ x4, 0 ≤ m ∧ ρ = [some (.bq ns), some (.int t), some (.int c), some (.int m), x4]) ⟨rfl, _, _, by omega, rfl⟩ (fun i d ρ M N2 hd hJ vP => ?_) (fun ρ M hJ => ?_)
    · obtain ⟨rfl, m, x4, hm, rfl⟩ := hJ
      obtain ⟨rfl, hi⟩ := dn hd
      have hi : i < ns.length := by split at hi <;> omega
      simp! only [zA hi]
      exact ⟨.inr ⟨by decide, by decide⟩, by decide, by decide, vP _ _ ⟨rfl, _, _, Int.emod_nonneg _ (by decide), rfl⟩⟩
    · obtain ⟨rfl, m, x4, hm, rfl⟩ := hJ
      exact hN _ _ ⟨rfl, c, m, 0, x4, hc, hm, rfl⟩
  · rintro ρ M ⟨rfl, c, m, x, x4, hc, hm, rfl⟩
    simp! only []
    exact ⟨⟨by decide, by decide, by decide⟩, dB (fun _ => ⟨by decide, fun a ha => .inl (q a 0 m ha (by omega) hm)⟩) (fun _ => ⟨by decide, fun a ha => .inl (q a c m ha hc hm)⟩)⟩
theorem JP (G : FnOk P w K mg base bt k f fd ps (bz P w K tb C9)) : FnOk P w K mg base bt k f fd ps (bz P w K tb HQ) := G.imp fun vs H Q E hS => by
  obtain ⟨β, ds, M, Q', E', eP, ew, eK, et, m, rs, ⟨ns, t, e, h1, h2, h3, h⟩, q, qe⟩ := hS
  refine ⟨β, ds, M, fun d M' => ∃ b c m, d = .ptr b ∧ M b = none ∧ 0 ≤ c ∧ 0 ≤ m ∧ M' = ax M b (.lst [.int c, .int m]), fun _ _ => False, eP, ew, eK, et, m, rs, ⟨ns, t, e, h1, h2, h3, fun b c m h4 h5 h6 => ⟨b, c, m, rfl, h4, h5, h6, rfl⟩⟩, fun d M' v H' x r hQ => ?_, fun _ _ _ _ h => h.elim⟩
  obtain ⟨b, c, m', rfl, hb, hc, hm, rfl⟩ := hQ
  have hB := zW x.mz hc hm
  exact q _ _ _ _ (Ex.sealed hb x hB) (r.dom (iP M b _ _)) (h b hb)
noncomputable def pf : cI := fun ds M Q _ => ∃ (b : Addr) (n : Int), ds = [.ptr b, .int n] ∧ M b = some .c6 ∧ 1 ≤ n ∧ n < 1073741824 ∧ ∀ d : Nat, (d : Int) < n → Q (.int (d : Nat)) M
noncomputable def zZ : cI := fun ds M Q _ => ∃ (b : Addr) (n c m : Int), ds = [.ptr b, .int n] ∧ M b = some (.lst [.int c, .int m]) ∧ 0 ≤ c ∧ 0 ≤ m ∧ 1 ≤ n ∧ n < 1073741824 ∧ ∀ (d : Nat) (c m : Int), (d : Int) < n → 0 ≤ c → 0 ≤ m → Q (.int (d : Nat)) (ax M b (.lst [.int c, .int m]))
theorem uS (D : Df K mg "_law_take" fq ["_law_bag_here", "_law_many"] f fd) : FnOk P w K mg base bt 1 f fd ["_law_bag_here", "_law_many"] (bz P w K tb zZ) := by
  refine eQ D dI (fun ds M Q E hS => by obtain ⟨b, n, c, m, e, _⟩ := hS; rw [e]; rfl) fun A outer s E Γ ds Q' E' hP hw hK ht hr hS => ?_
  obtain ⟨b, n, c, m, e, hb, hc, hm, n1, n2, q⟩ := hS
  refine ⟨_, (ak (cL (a9 Ha (bC (cH (K := K) rfl) (qv 0) aw (fun _ _ => rfl)) aw (bE _))
      (ak (aN (i := 2) dI.nd rfl (Or.inl rfl) (aY iH (bC (cH (K := K) rfl) (qv 0) aw (fun _ _ => rfl)) (qv 1)))
    (ak (j7 (aY zt (bC (cH (K := K) rfl) (qv 0) aw (fun _ _ => rfl)) (qv 1)) (j9 (qv 0) aw))
    (av (aX (qv 2)))))
      qss_nil)
    (ak (aN (i := 3) dI.nd rfl (Or.inl rfl) aw)
    (ak (aN (i := 4) dI.nd rfl (Or.inl rfl) aw)
    (ak (nM PassesOwn.never (a9 pV (qv 4) (qv 1) (bE _))
      (ak (j7 (aY iH (aY gV (aY mI (bC (cH (K := K) rfl) (qv 0) aw (fun _ _ => rfl)) aw) aw) aw) (j9 (qv 0) aw))
    (ak (aN (i := 3) dI.nd rfl (Or.inl rfl) (aY gV (aY mI (qv 3) aw) (aY iH (aY mI (aY zt (bC (cH (K := K) rfl) (qv 0) aw (fun _ _ => rfl)) aw) aw) aw)))
    (av (aN (i := 4) dI.nd rfl (Or.inl rfl) (aY mI (qv 4) aw))))))
    (av (aX (aY iH (qv 3) (qv 1)))))))), ?_⟩
  subst e
  have Oy : ∀ x y : Int, cZ [Dv.int x, Dv.int y] 1 = some (.int y) := fun x y => dF (j := 1) rfl
  have Oz : g7 2 0 = some 0 := rfl
  have OA : g7 2 1 = some 1 := rfl
  have fin : ∀ {i c m : Int} {M : Mh}, 0 ≤ c → 0 ≤ m → M = ax Γ.M0 b (.lst [.int c, .int m]) → jQ Γ.M0 Q' (.int (i % n)) M := fun {i c m M} hc hm e => by
    obtain ⟨d, hd⟩ := Int.eq_ofNat_of_zero_le (Int.emod_nonneg i (show n ≠ 0 by omega))
    have := Int.emod_lt_of_pos i (show 0 < n by omega)
    rw [hd, e]
    exact .inl (q d c m (by omega) hc hm)
  simp! only [hb, Oz]
  refine dB (fun h => ?_) (fun h => ?_)
  · refine ⟨by omega, ⟨by omega, n2⟩, fin (Int.ediv_nonneg hc (by omega)) hm rfl⟩
  · refine ⟨fun k ρ M => ∃ num room c m x2, 0 ≤ num ∧ 1 ≤ room ∧ 0 ≤ c ∧ 0 ≤ m ∧ k = (n - room).toNat ∧ ρ = [some (.ptr b), some (.int n), x2, some (.int num), some (.int room)] ∧ M = ax Γ.M0 b (.lst [.int c, .int m]), ⟨_, 0, 1, c, m, _, by omega, by omega, hc, hm, rfl, rfl, (vM hb).symm⟩, ?_⟩
    rintro k ρ M ⟨num, room, c, m, x2, h1, h2, hc, hm, rfl, rfl, rfl⟩
    simp! only [Oy, OA, updM_same]
    refine dB (fun h => ?_) (fun h => ⟨by omega, fin hc hm rfl⟩)
    have h := of_decide_eq_true h
    have m3 : 0 ≤ (m * 48271 + 7919) % 2147483647 := Int.emod_nonneg _ (by decide)
    have n3 : 0 ≤ (m * 48271 + 7919) % 2147483647 / 8 * 69621 % 1073741789 := Int.emod_nonneg _ (by decide)
    refine ⟨.inr ⟨by decide, by decide⟩, by decide, .inr ⟨by decide, by decide⟩, ⟨by decide, by decide⟩, .inr ⟨by decide, by decide⟩, by decide, .inr ⟨by decide, by decide⟩, _, ?_, _, _, c, _, _, ?_, ?_, hc, m3, rfl, rfl, rfl⟩ <;> omega
theorem HR (G : FnOk P w K mg base bt k f fd ps (bz P w K tb zZ)) : FnOk P w K mg base bt k f fd ps (bz P w K tb pf) := G.imp fun vs H Q E hS => by
  obtain ⟨β, ds, M, Q', E', eP, ew, eK, et, m, rs, ⟨b, n, e, hb, h1, h2, h⟩, q, qe⟩ := hS
  have eM := vM hb
  have d1 : ∀ o a, (M a).isSome = (ax M b o a).isSome := fun o a => by have := iP M b .c6 o a; rwa [eM] at this
  rw [← eM] at m
  obtain ⟨c, m0, hc, hm, hO⟩ := HP m
  refine ⟨β, ds, ax M b (.lst [.int c, .int m0]), fun d M' => ∃ (k : Nat) (c' m' : Int), d = .int (k : Nat) ∧ (k : Int) < n ∧ 0 ≤ c' ∧ 0 ≤ m' ∧ M' = ax M b (.lst [.int c', .int m']), fun _ _ => False, eP, ew, eK, et, m.chg hO, ⟨rs.len, fun i v d x y => (rs.at' i v d x y).dom (d1 _)⟩, ⟨b, n, c, m0, e, updM_same, hc, hm, h1, h2, fun d c' m' h3 h4 h5 => ⟨d, c', m', rfl, h3, h4, h5, updM_updM⟩⟩, fun d M' v H' x r hQ => ?_, fun _ _ _ _ h => h.elim⟩
  obtain ⟨k, c', m', rfl, hk, Ct, k7, rfl⟩ := hQ
  have hB := zW x.mz Ct k7
  have x2 := Ex.chg (o2 := .c6) x hB
  rw [eM] at x2
  exact q _ _ _ _ x2 (r.dom fun a => (d1 _ a).symm) (h k hk)
theorem rq {α β : Type} (f : α → β) : ∀ (l : List α) (i : Nat), (l.map f).eraseIdx i = (l.eraseIdx i).map f
  | [], _ => rfl
  | _ :: _, 0 => rfl
  | a :: l, i + 1 => by
    show f a :: (l.map f).eraseIdx i = f a :: (l.eraseIdx i).map f
    rw [rq f l i]
theorem eU {α : Type} : ∀ (l : List α) (i : Nat) (h : i < l.length), (l[i] :: l.eraseIdx i).Perm l
  | a :: l, 0, _ => .refl _
  | a :: l, i + 1, h => by
    have h' : i < l.length := by simpa using h
    show (l[i] :: a :: l.eraseIdx i).Perm (a :: l)
    exact (List.Perm.swap a l[i] _).trans ((eU l i h').cons a)
structure eh (n : Nat) (os : List Int) : Prop where
  perm : os.Perm ((List.range n).map fun i : Nat => (i : Int))
theorem eh.len {n : Nat} {os : List Int} (h : eh n os) : os.length = n := by
  have := h.perm.length_eq
  simpa using this
theorem eh.mem {n : Nat} {os : List Int} (h : eh n os) {x : Int} (hx : x ∈ os) : 0 ≤ x ∧ x < n := by
  have := h.perm.mem_iff.mp hx
  obtain ⟨i, hi, rfl⟩ := List.mem_map.mp this
  have := List.mem_range.mp hi
  omega
theorem eh.at {n : Nat} {os : List Int} (h : eh n os) {i : Nat} (hi : i < n) : ∃ x : Int, cZ (os.map Dv.int) (i : Int) = some (.int x) ∧ 0 ≤ x ∧ x < n := by
  have hl : i < os.length := by rw [h.len]; exact hi
  exact ⟨os[i], dF (by rw [List.getElem?_map, List.getElem?_eq_getElem hl]; rfl), h.mem (List.getElem_mem hl)⟩
noncomputable def z4 : cI := fun ds M Q _ => ∃ (b : Addr) (n : Nat), ds = [.ptr b, .int (n : Nat)] ∧ M b = some .c6 ∧ n ≤ 100 ∧ ∀ os, eh n os → Q (jC os) M
noncomputable def Dc : cI := fun ds M Q _ => ∃ (b : Addr) (most : Nat), ds = [.ptr b, .int (most : Nat)] ∧ M b = some .c6 ∧ 1 ≤ most ∧ most ≤ 9 ∧ ∀ af n, dU af n → af.length ≤ most → Q (eN af) M
theorem Eu {n d : Nat} (h : d < n) : seqIndex? (d : Int) n = some d := (pI (n := n) (i := (d : Int)) (j := d) (by unfold g7; rw [if_pos (by omega), if_pos (by omega)]; rfl)).1
theorem t6 {f1 : Addr} {bS : FuncData} (D : Df K mg "_law_order" eR ["_law_bag_here", "_law_many"] f fd)
    (au : Df K mg "_law_take" fq ["_law_bag_here", "_law_many"] f1 bS) (bG : FnOk P w K mg base bt 1 f1 bS ["_law_bag_here", "_law_many"] (bz P w K tb pf)) (bl : Bl mg) : FnOk P w K mg base bt 2 f fd ["_law_bag_here", "_law_many"] (bz P w K tb z4) := by
  refine eQ D kO (fun ds M Q E hS => by obtain ⟨b, n, e, _⟩ := hS; rw [e]; rfl) fun A outer s E Γ ds Q' E' hP hw hK ht hr hS => ?_
  obtain ⟨b, n, e, hb, hn, q⟩ := hS
  refine ⟨_, (ak (aN (i := 2) kO.nd rfl (Or.inr rfl) (rL rfl rfl bl.list_ rfl bl.range_ (qv 1)))
    (av (aX (fo (N' := ["_law_k", "_law_free", "_law_bag_here", "_law_many"]) (tn := 1) (idx := [2, 0, 1]) rfl (show aF ["_law_bag_here", "_law_many", "_law_free"] (ai eR) _ ["_law_k", "_law_free", "_law_bag_here", "_law_many"] 1 [2, 0, 1] from by decide +kernel) (bN rfl bl.range_ (aa (qv 1) ah)) (fun _ _ _ _ _ => (aR (i := 0) (show List.Nodup [("_law_k" : Str), ("_law_free" : Str), ("_law_bag_here" : Str), ("_law_many" : Str)] from by decide +kernel) rfl (Or.inl rfl))) (fun _ _ _ _ _ => cW) (fun _ _ _ _ _ => (oW (K := K) rfl PySem.F.plainAttrs_list PySem.F.slot_list_pop PySem.F.type_list_pop vA (qv 1) (aa (aL bG (hr.mono (by decide)) rfl au.mg au.fn.kp au.bd bu hP hw hK ht XR.none (aa (qv 2) (aa (aY JA (qv 3) (qv 0)) ah))) ah))))))), ?_⟩
  subst e
  simp! only []
  refine ⟨by omega, by omega, fun a ha => ⟨by omega, by omega, ?_⟩⟩
  have OB : b ≠ a := fun z => by rw [z, ha] at hb; cases hb
  refine ⟨Nat.lt_of_le_of_lt hn (by decide), fH (acc := []) (fun acc τ M => ∃ rest got : List Int, acc = got.map Dv.int ∧ (∃ x, τ = [x, some (.ptr a), some (.ptr b), some (.int (n : Nat))]) ∧ M a = some (.lst (rest.map .int)) ∧ (∀ c, c ≠ a → M c = Γ.M0 c) ∧ (got ++ rest).Perm ((List.range n).map fun i : Nat => (i : Int))) ⟨(List.range n).map fun i : Nat => (i : Int), [], rfl, ⟨_, rfl⟩, by rw [updM_same, jf, List.map_map]; rfl, fun c hc => aj hc, .refl _⟩ (fun i d acc τ M hd hl ⟨rest, got, e1, ⟨x, e2⟩, h1, h2, h3⟩ R hR => ?_) (fun ys τ M hl ⟨rest, got, e1, ⟨x, e2⟩, h1, h2, h3⟩ => ?_)⟩
  · subst e1 e2
    obtain ⟨rfl, hi⟩ := dn hd
    have hlen : got.length + rest.length = n := by have := h3.length_eq; simpa using this
    have hl : got.length = i := by simpa using hl
    simp! only []
    refine ⟨by rw [h1]; trivial, b, _, rfl, (by rw [h2 b OB]; exact hb), by omega, by omega, fun d hd => ?_⟩
    have qP : d < rest.length := by omega
    simp only [h1, List.length_map, Eu qP, List.getElem?_map, List.getElem?_eq_getElem qP, Option.map_some]
    refine ⟨by omega, by omega, hR _ _ _ ⟨rest.eraseIdx d, got ++ [rest[d]], by rw [List.map_append]; rfl, ⟨_, rfl⟩, by rw [updM_same, rq], fun c hc => by rw [aj hc]; exact h2 c hc, ?_⟩⟩
    refine List.Perm.trans ?_ h3
    rw [List.append_assoc]
    exact List.Perm.append_left got (eU rest d qP)
  · simp only [List.nil_append] at e1
    subst e1
    have hlen : got.length + rest.length = n := by have := h3.length_eq; simpa using this
    have hl : got.length = n := by simpa [rangeD_len] using hl
    have z5 : rest = [] := List.eq_nil_of_length_eq_zero (by omega)
    rw [z5, List.append_nil] at h3
    exact jD (fun c o e => by rw [h2 c (fun z => by rw [z, ha] at e; cases e)]; exact e) (.lst (gN _)) (q got ⟨h3⟩)
end
section
variable {P : Program} {w : World} {K : PySem.W.Frag} {mg : Str → Option Value} {base : Heap} {tb : cP}
noncomputable def eY (n ways : Nat) (row : List Int) : Prop := row.length = ways ∧ ∀ x ∈ row, 0 ≤ x ∧ x < (n : Int)
structure cM (M0 M : Mh) (r : Addr) (as : List Addr) (n ways : Nat) : Prop where
  kp : Keeps M0 M
  r0 : M0 r = none
  rm : M r = some (.lst (as.map .ptr))
  fr : ∀ a ∈ as, M0 a = none ∧ a ≠ r
  len : as.length = n
  row : ∀ a ∈ as, ∃ row : List Int, M a = some (.lst (row.map .int)) ∧ eY n ways row
  pin : ∀ b o, M b = some o → M0 b = some o ∨ b = r ∨ (∃ row : List Int, o = .lst (row.map .int)) ∨ ∃ bs : List Addr, o = .lst (bs.map .ptr) ∧ ∀ c ∈ bs, c ≠ r ∧ ∃ o, M c = some o
theorem cM.sQ {M0 M : Mh} {r : Addr} {as : List Addr} {n ways : Nat} (h : cM M0 M r as n ways) {a : Addr} (ha : a ∈ as) {row : List Int} (o : eY n ways row) : cM M0 (ax M a (.lst (row.map .int))) r as n ways := by
  obtain ⟨f0, f1⟩ := h.fr a ha
  refine ⟨.upd f0 h.kp, h.r0, by rw [aj (Ne.symm f1)]; exact h.rm, h.fr, h.len, fun c hc => ?_, fun b u e => ?_⟩
  · by_cases z : c = a
    · subst z; exact ⟨row, updM_same, o⟩
    · rw [aj z]; exact h.row c hc
  · by_cases z : b = a
    · subst z; rw [updM_same] at e; cases e; exact .inr (.inr (.inl ⟨row, rfl⟩))
    · rw [aj z] at e
      rcases h.pin b u e with q | q | q | ⟨bs, q1, q2⟩
      · exact .inl q
      · exact .inr (.inl q)
      · exact .inr (.inr (.inl q))
      · refine .inr (.inr (.inr ⟨bs, q1, fun c hc => ⟨(q2 c hc).1, ?_⟩⟩))
        by_cases z : c = a
        · subst z; exact ⟨_, updM_same⟩
        · rw [aj z]; exact (q2 c hc).2
theorem cM.put {M0 M : Mh} {r : Addr} {as : List Addr} {n ways : Nat} (h : cM M0 M r as n ways) {a : Addr} (ha : M a = none) {row : List Int} (o : eY n ways row) {i : Nat} (hi : i < n) : cM M0 (ax (ax M a (.lst (row.map .int))) r (.lst ((as.map .ptr).set i (.ptr a)))) r (as.set i a) n ways := by
  have nr : a ≠ r := fun z => by rw [z, h.rm] at ha; cases ha
  have a0 : M0 a = none := by
    cases e : M0 a with
    | none => rfl
    | some u => rw [h.kp a u e] at ha; cases ha
  have OC : a ∉ as := fun z => by obtain ⟨row, e, _⟩ := h.row a z; rw [ha] at e; cases e
  refine ⟨.upd h.r0 (.upd a0 h.kp), h.r0, by rw [updM_same, List.map_set], fun c hc => ?_, by rw [List.length_set]; exact h.len, fun c hc => ?_, fun b u e => ?_⟩
  · rcases List.mem_or_eq_of_mem_set hc with z | z
    · exact h.fr c z
    · rw [z]; exact ⟨a0, nr⟩
  · rcases List.mem_or_eq_of_mem_set hc with z | z
    · have n1 := (h.fr c z).2
      have n2 : c ≠ a := fun e => OC (e ▸ z)
      rw [aj n1, aj n2]; exact h.row c z
    · rw [z, aj nr, updM_same]; exact ⟨row, rfl, o⟩
  · by_cases z : b = r
    · exact .inr (.inl z)
    · rw [aj z] at e
      by_cases z2 : b = a
      · subst z2; rw [updM_same] at e; cases e; exact .inr (.inr (.inl ⟨row, rfl⟩))
      · rw [aj z2] at e
        rcases h.pin b u e with q | q | q | ⟨bs, q1, q2⟩
        · exact .inl q
        · exact .inr (.inl q)
        · exact .inr (.inr (.inl q))
        · refine .inr (.inr (.inr ⟨bs, q1, fun c hc => ⟨(q2 c hc).1, ?_⟩⟩))
          rw [aj (q2 c hc).1]
          by_cases z : c = a
          · subst z; exact ⟨_, updM_same⟩
          · rw [aj z]; exact (q2 c hc).2
structure jm (M0 M : Mh) : Prop where
  kp : Keeps M0 M
  pin : ∀ b o, M b = some o → M0 b = some o ∨ (∃ row : List Int, o = .lst (row.map .int)) ∨ ∃ bs : List Addr, o = .lst (bs.map .ptr) ∧ ∀ c ∈ bs, ∃ o, M c = some o
theorem jm.refl {M0 : Mh} : jm M0 M0 := ⟨.refl, fun b o e => .inl e⟩
theorem iM {M0 M : Mh} (h : Keeps M0 M) {a : Addr} (ha : M a = none) : M0 a = none := by
  cases e : M0 a with
  | none => rfl
  | some u => rw [h a u e] at ha; cases ha
theorem jm.row {M0 M : Mh} (h : jm M0 M) {a : Addr} (ha : M a = none) (row : List Int) : jm M0 (ax M a (.lst (row.map .int))) := by
  refine ⟨.upd (iM h.kp ha) h.kp, fun b o e => ?_⟩
  by_cases z : b = a
  · subst z; rw [updM_same] at e; cases e; exact .inr (.inl ⟨row, rfl⟩)
  · rw [aj z] at e
    rcases h.pin b o e with q | q | ⟨bs, q1, q2⟩
    · exact .inl q
    · exact .inr (.inl q)
    · refine .inr (.inr ⟨bs, q1, fun c hc => ?_⟩)
      by_cases z : c = a
      · subst z; exact ⟨_, updM_same⟩
      · rw [aj z]; exact q2 c hc
theorem cM.own {M0 M : Mh} {r : Addr} {as : List Addr} {n ways : Nat} (h : cM M0 M r as n ways) : jm M0 M := ⟨h.kp, fun b o e => by
  rcases h.pin b o e with q | q | q | ⟨bs, q1, q2⟩
  · exact .inl q
  · subst q; rw [h.rm] at e; cases e
    exact .inr (.inr ⟨as, rfl, fun c hc => let ⟨row, e, _⟩ := h.row c hc; ⟨_, e⟩⟩)
  · exact .inr (.inl q)
  · exact .inr (.inr ⟨bs, q1, fun c hc => (q2 c hc).2⟩)⟩
theorem cM.mk' {M0 M : Mh} {r : Addr} {as : List Addr} {n ways : Nat} (h : jm M0 M) (hr : M r = none) (hl : as.length = n) (ha : ∀ a ∈ as, M0 a = none ∧ ∃ row : List Int, M a = some (.lst (row.map .int)) ∧ eY n ways row) : cM M0 (ax M r (.lst (as.map .ptr))) r as n ways := by
  have ne : ∀ {c o}, M c = some o → c ≠ r := fun e z => by rw [z, hr] at e; cases e
  refine ⟨.upd (iM h.kp hr) h.kp, iM h.kp hr, updM_same, fun a h => ?_, hl, fun a h => ?_, fun b o e => ?_⟩
  · obtain ⟨h0, row, e, _⟩ := ha a h
    exact ⟨h0, ne e⟩
  · obtain ⟨h0, row, e, o⟩ := ha a h
    exact ⟨row, by rw [aj (ne e)]; exact e, o⟩
  · by_cases z : b = r
    · exact .inr (.inl z)
    · rw [aj z] at e
      rcases h.pin b o e with q | q | ⟨bs, q1, q2⟩
      · exact .inl q
      · exact .inr (.inr (.inl q))
      · refine .inr (.inr (.inr ⟨bs, q1, fun c hc => ?_⟩))
        obtain ⟨u, e⟩ := q2 c hc
        exact ⟨ne e, u, by rw [aj (ne e)]; exact e⟩
theorem rX {g : cG} {te : aJ} {n : Nat} {M1 : Mh} (T : aA → Prop) {ds : List Dv} {τ : aA} {Q : List Dv → Mh → Prop} (h0 : T τ) (h : ∀ d ∈ ds, ∀ τ, T τ → ∀ R : aA → ZK, (∀ (x : Int) aC, 0 ≤ x → x < (n : Int) → T aC → R aC (.int x) M1) → g d τ M1 fun aC M2 => te aC M2 (R aC)) (q : ∀ row : List Int, row.length = ds.length → (∀ x ∈ row, 0 ≤ x ∧ x < (n : Int)) → Q (row.map .int) M1) : iu g zNoIf te ds τ M1 Q := by
  refine fH (acc := []) (fun acc τ M => ∃ row : List Int, acc = row.map Dv.int ∧ (∀ x ∈ row, 0 ≤ x ∧ x < (n : Int)) ∧ T τ ∧ M = M1) ⟨[], rfl, (fun _ h => nomatch h), h0, rfl⟩ (fun i d acc τ M hd _ ⟨row, e1, hr, ht, e2⟩ R hR => ?_) (fun ys τ M hl ⟨row, e1, hr, ht, e2⟩ => ?_)
  · subst e1 e2
    refine h d (List.mem_of_getElem? hd) τ ht R fun x aC x0 x1 t2 => hR _ _ _ ⟨row ++ [x], by rw [List.map_append]; rfl, fun y hy => ?_, t2, rfl⟩
    rcases List.mem_append.mp hy with z | z
    · exact hr y z
    · rw [List.mem_singleton] at z; rw [z]; exact ⟨x0, x1⟩
  · rw [List.nil_append] at e1
    subst e1 e2
    exact q row (by simpa using hl) hr
noncomputable def bg (x : Option Dv) : Prop := ∀ M d, x = some d → Pin M d
theorem bg.none : bg none := fun _ _ h => nomatch h
theorem bg.int (i : Int) : bg (some (.int i)) := fun _ _ h => by cases h; exact .int i
theorem bg.lI (ns : List Int) : bg (some (jC ns)) := fun _ _ h => by cases h; exact .lst (gN ns)
theorem rA {M0 M : Mh} {as : List Addr} {n ways : Nat} {T : Prop} (hO : jm M0 M) (ha : ∀ a ∈ as, M0 a = none ∧ ∃ row : List Int, M a = some (.lst (row.map .int)) ∧ eY n ways row) {a : Addr} (h : M a = none) {row : List Int} (o : eY n ways row) (t : T) :
    ∃ KZ : List Addr, as.map Dv.ptr ++ [Dv.ptr a] = KZ.map Dv.ptr ∧ T ∧ jm M0 (ax M a (.lst (row.map .int))) ∧ ∀ c ∈ KZ, M0 c = none ∧ ∃ xq : List Int, ax M a (.lst (row.map .int)) c = some (.lst (xq.map .int)) ∧ eY n ways xq := by
  refine ⟨as ++ [a], by rw [List.map_append]; rfl, t, hO.row h row, fun c hc => ?_⟩
  rcases List.mem_append.mp hc with z | z
  · obtain ⟨h0, xq, e, o'⟩ := ha c z
    have ne : c ≠ a := fun q => by rw [q, h] at e; cases e
    exact ⟨h0, xq, by rw [aj ne]; exact e, o'⟩
  · rw [List.mem_singleton] at z
    subst z
    exact ⟨iM hO.kp h, row, updM_same, o⟩
theorem mP {n d : Nat} (h : d < n) : g7 n (d : Int) = some d := by unfold g7; rw [if_pos (by omega), if_pos (by omega)]; rfl
theorem t7 (row : List Int) (t : Nat) (x : Int) : (row.map Dv.int).set t (.int x) = (row.set t x).map Dv.int := by rw [List.map_set]
theorem eY.set {n ways : Nat} {row : List Int} (h : eY n ways row) {t : Nat} {x : Int} (x0 : 0 ≤ x) (x1 : x < (n : Int)) : eY n ways (row.set t x) := ⟨by rw [List.length_set]; exact h.1, fun y hy => by
  rcases List.mem_or_eq_of_mem_set hy with z | z
  · exact h.2 y z
  · rw [z]; exact ⟨x0, x1⟩⟩
noncomputable def ph (os : List Int) : Dv → Int | .int j => os.getD j.toNat 0 | _ => 0
theorem t8 {os : List Int} {j : Nat} {x : Int} (h : cZ (os.map Dv.int) (j : Int) = some (.int x)) : ph os (.int (j : Nat)) = x := by
  by_cases hj : j < os.length
  · rw [dF (j := j) (v := Dv.int os[j]) (by rw [List.getElem?_map, List.getElem?_eq_getElem hj]; rfl)] at h
    cases h
    show os.getD (Int.toNat (j : Int)) 0 = _
    rw [Int.toNat_natCast, List.getD_eq_getElem?_getD, List.getElem?_eq_getElem hj]; rfl
  · unfold cZ g7 at h
    rw [if_pos (by omega), if_neg (by simp; omega)] at h
    cases h
noncomputable def B5 (per i : Nat) : Dv → Bool | .int j => decide (j % (per : Int) = ((i : Int) + 1) % (per : Int)) | _ => false
theorem B6 {n per i : Nat} {os : List Int} (lW : eh n os) (p1 : 1 ≤ per) (pn : per ≤ n) : ∃ gs : List Int, ((c7 0 n).filter (B5 per i)).map (fun d => Dv.int (ph os d)) = gs.map Dv.int ∧ 1 ≤ gs.length ∧ gs.length ≤ n ∧ ∀ x ∈ gs, 0 ≤ x ∧ x < (n : Int) := by
  refine ⟨((c7 0 n).filter (B5 per i)).map (ph os), by rw [List.map_map]; rfl, ?_, ?_, fun x hx => ?_⟩
  · rw [List.length_map]
    refine List.length_pos_of_mem (a := Dv.int (((i + 1) % per : Nat) : Int)) (List.mem_filter.mpr ⟨?_, ?_⟩)
    · have : (i + 1) % per < per := Nat.mod_lt _ (by omega)
      exact List.mem_of_getElem? (i := (i + 1) % per) (by rw [c7, List.getElem?_map, List.getElem?_range (by omega)]; simp)
    · show decide _ = true
      rw [decide_eq_true_eq]
      push_cast
      exact Int.emod_emod_of_dvd _ (Int.dvd_refl _)
  · rw [List.length_map]
    exact Nat.le_trans (List.length_filter_le _ _) (by rw [rangeD_len]; exact Nat.le_refl _)
  · obtain ⟨d, hd, rfl⟩ := List.mem_map.mp hx
    obtain ⟨j, hj, rfl⟩ := oY (List.mem_filter.mp hd).1
    rw [Int.zero_add]
    obtain ⟨gx, ny, g0, g1⟩ := lW.at hj
    rw [t8 ny]
    exact ⟨g0, g1⟩
theorem xr {f f1 f2 : Addr} {fd bS fd2 : FuncData} (D : Df K mg "_law_net" b7 ["_law_bag_here", "_law_most"] f fd)
    (au : Df K mg "_law_take" fq ["_law_bag_here", "_law_many"] f1 bS) (bG : FnOk P w K mg base bt 1 f1 bS ["_law_bag_here", "_law_many"] (bz P w K tb pf))
    (b8 : Df K mg "_law_order" eR ["_law_bag_here", "_law_many"] f2 fd2) (lX : FnOk P w K mg base bt 2 f2 fd2 ["_law_bag_here", "_law_many"] (bz P w K tb z4)) (bl : Bl mg) : FnOk P w K mg base bt 3 f fd ["_law_bag_here", "_law_most"] (bz P w K tb Dc) := by
  refine eQ D bf (fun ds M Q E hS => by obtain ⟨b, n, e, _⟩ := hS; rw [e]; rfl) fun A outer s E Γ ds Q' E' hP hw hK ht hr hS => ?_
  obtain ⟨b, most, e, hb, h1, h9, q⟩ := hS
  refine ⟨_, (ak (aN (i := 2) bf.nd rfl (Or.inr rfl) (aY gV aw (aL bG (hr.mono (by decide)) rfl au.mg au.fn.kp au.bd bu hP hw hK ht XR.none (aa (qv 0) (aa (qv 1) ah)))))
    (ak (aN (i := 3) bf.nd rfl (Or.inr rfl) (aY gV aw (aL bG (hr.mono (by decide)) rfl au.mg au.fn.kp au.bd bu hP hw hK ht XR.none (aa (qv 0) (aa aw ah)))))
    (ak (aN (i := 4) bf.nd rfl (Or.inl rfl) (aL bG (hr.mono (by decide)) rfl au.mg au.fn.kp au.bd bu hP hw hK ht XR.none (aa (qv 0) (aa aw ah))))
    (ak (uP (i := 5) bf.nd rfl rfl (N' := ["_law_place", "_law_bag_here", "_law_many", "_law_ways"]) (tn := 1) (idx := [0, 2, 3]) rfl (show aF ["_law_bag_here", "_law_most", "_law_many", "_law_ways", "_law_kind", "_law_rows", "_law_order_here", "_law_period", "_law_stays", "_law_k", "_law_place", "_law_onward", "_law_goals", "_law_turns"] (ai b7) _ ["_law_place", "_law_bag_here", "_law_many", "_law_ways"] 1 [0, 2, 3] from by decide +kernel) (bN rfl bl.range_ (aa (qv 2) ah)) (fun _ _ _ _ _ => (aR (i := 0) (show List.Nodup [("_law_place" : Str), ("_law_bag_here" : Str), ("_law_many" : Str), ("_law_ways" : Str)] from by decide +kernel) rfl (Or.inl rfl))) (fun _ _ _ _ _ => cW) (fun _ _ _ _ _ => (je (N' := ["_law_road", "_law_bag_here", "_law_many"]) (tn := 1) (idx := [1, 2]) rfl (aF.rel (show aF ["_law_place", "_law_bag_here", "_law_many", "_law_ways"] _ _ ["_law_road", "_law_bag_here", "_law_many"] 1 [1, 2] from by decide +kernel)) (bN rfl bl.range_ (aa (qv 3) ah)) (fun _ _ _ _ _ => (aR (i := 0) (show List.Nodup [("_law_road" : Str), ("_law_bag_here" : Str), ("_law_many" : Str)] from by decide +kernel) rfl (Or.inl rfl))) (fun _ _ _ _ _ => cW) (fun _ _ _ _ _ => (aL bG (hr.mono (by decide)) rfl au.mg au.fn.kp au.bd bu hP hw hK ht XR.none (aa (qv 1) (aa (qv 2) ah)))))))
    (ak (aN (i := 6) bf.nd rfl (Or.inr rfl) (aL lX (hr.mono (by decide)) rfl b8.mg b8.fn.kp b8.bd bu hP hw hK ht XR.none (aa (qv 0) (aa (qv 2) ah))))
    (ak (aN (i := 7) bf.nd rfl (Or.inr rfl) (aY gV aw (aL bG (hr.mono (by decide)) rfl au.mg au.fn.kp au.bd bu hP hw hK ht XR.none (aa (qv 0) (aa (qv 2) ah)))))
    (ak (aN (i := 8) bf.nd rfl (Or.inr rfl) (aL bG (hr.mono (by decide)) rfl au.mg au.fn.kp au.bd bu hP hw hK ht XR.none (aa (qv 0) (aa aw ah))))
    (ak (eO PassesOwn.never rfl (Ec true (K := K) rfl rfl bl.enumerate_ (qv 6)) (fun nv eP ew eK et => by have hP := hP.trans eP.symm; have hw := hw.trans ew.symm; have hK := hK.trans eK.symm; have ht := ht.trans et.symm; exact ⟨(tu (n := 2) rfl (gL (aR (i := 9) bf.nd rfl (Or.inr rfl)) (gL (aR (i := 10) bf.nd rfl (Or.inr rfl)) pS))), (ak (aN (i := 11) bf.nd rfl (Or.inr rfl) (bC (cH (K := K) rfl) (qv 6) (aY iH (aY gV (qv 9) aw) (qv 2)) (fun _ _ => rfl)))
    (ak (cL (tm pV pV aw (qv 4) aw)
      (av (j7 (qv 11) (j9 (bC (cH (K := K) rfl) (qv 5) (qv 10) (fun _ _ => rfl)) (aL bG (hr.mono (by decide)) rfl au.mg au.fn.kp au.bd bu hP hw hK ht XR.none (aa (qv 0) (aa (qv 3) ah))))))
      qss_nil)
    (ak (cL (a9 jc (qv 4) aw (bE _))
      (ak (aN (i := 12) bf.nd rfl (Or.inr rfl) (fo (N' := ["_law_j", "_law_order_here", "_law_period", "_law_k"]) (tn := 1) (idx := [6, 7, 9]) rfl (show aF ["_law_bag_here", "_law_most", "_law_many", "_law_ways", "_law_kind", "_law_rows", "_law_order_here", "_law_period", "_law_stays", "_law_k", "_law_place", "_law_onward", "_law_goals", "_law_turns"] (ai b7) _ ["_law_j", "_law_order_here", "_law_period", "_law_k"] 1 [6, 7, 9] from by decide +kernel) (bN rfl bl.range_ (aa (qv 2) ah)) (fun _ _ _ _ _ => (aR (i := 0) (show List.Nodup [("_law_j" : Str), ("_law_order_here" : Str), ("_law_period" : Str), ("_law_k" : Str)] from by decide +kernel) rfl (Or.inl rfl))) (fun _ _ _ _ _ => (Ea (a9 jc (aY iH (qv 0) (qv 2)) (aY iH (aY gV (qv 3) aw) (qv 2)) (bE _)))) (fun _ _ _ _ _ => (bC (cH (K := K) rfl) (qv 1) (qv 0) (fun _ _ => rfl)))))
    (av (j7 (je (N' := ["_law_road", "_law_goals", "_law_bag_here"]) (tn := 1) (idx := [12, 0]) rfl (show aF ["_law_bag_here", "_law_most", "_law_many", "_law_ways", "_law_kind", "_law_rows", "_law_order_here", "_law_period", "_law_stays", "_law_k", "_law_place", "_law_onward", "_law_goals", "_law_turns"] (ai b7) _ ["_law_road", "_law_goals", "_law_bag_here"] 1 [12, 0] from by decide +kernel) (bN rfl bl.range_ (aa (qv 3) ah)) (fun _ _ _ _ _ => (aR (i := 0) (show List.Nodup [("_law_road" : Str), ("_law_goals" : Str), ("_law_bag_here" : Str)] from by decide +kernel) rfl (Or.inl rfl))) (fun _ _ _ _ _ => cW) (fun _ _ _ _ _ => (bC (cH (K := K) rfl) (qv 1) (aL bG (hr.mono (by decide)) rfl au.mg au.fn.kp au.bd bu hP hw hK ht XR.none (aa (qv 2) (aa (aH (dX (K := K) rfl hK) rfl bl.len_ PySem.boot_len (aa (qv 1) ah)) ah))) (fun _ _ => rfl)))) (j9 (qv 5) (qv 10)))))
      qss_nil)
    (av (cL (a9 jc (qv 4) aw (bE _))
      (av (j7 (aY (Es (K := K) rfl) (tq (aa (qv 11) ah)) (fo (N' := ["_law_road", "_law_stays", "_law_onward", "_law_place"]) (tn := 1) (idx := [8, 11, 10]) rfl (show aF ["_law_bag_here", "_law_most", "_law_many", "_law_ways", "_law_kind", "_law_rows", "_law_order_here", "_law_period", "_law_stays", "_law_k", "_law_place", "_law_onward", "_law_goals", "_law_turns"] (ai b7) _ ["_law_road", "_law_stays", "_law_onward", "_law_place"] 1 [8, 11, 10] from by decide +kernel) (zo rfl bl.range_ (aa aw (aa (qv 3) ah))) (fun _ _ _ _ _ => (aR (i := 0) (show List.Nodup [("_law_road" : Str), ("_law_stays" : Str), ("_law_onward" : Str), ("_law_place" : Str)] from by decide +kernel) rfl (Or.inl rfl))) (fun _ _ _ _ _ => cW) (fun _ _ _ _ _ => (bC (cH (K := K) rfl) (tq (aa (qv 2) (aa (qv 3) ah))) (qv 1) (fun _ _ => rfl))))) (j9 (qv 5) (qv 10))))
      qss_nil)))))⟩))
    (ak (cL (a9 jc (qv 4) aw (bE _))
      (ak (aN (i := 13) bf.nd rfl (Or.inr rfl) (fo (N' := ["_law_road", "_law_bag_here", "_law_many"]) (tn := 1) (idx := [0, 2]) rfl (show aF ["_law_bag_here", "_law_most", "_law_many", "_law_ways", "_law_kind", "_law_rows", "_law_order_here", "_law_period", "_law_stays", "_law_k", "_law_place", "_law_onward", "_law_goals", "_law_turns"] (ai b7) _ ["_law_road", "_law_bag_here", "_law_many"] 1 [0, 2] from by decide +kernel) (bN rfl bl.range_ (aa (qv 3) ah)) (fun _ _ _ _ _ => (aR (i := 0) (show List.Nodup [("_law_road" : Str), ("_law_bag_here" : Str), ("_law_many" : Str)] from by decide +kernel) rfl (Or.inl rfl))) (fun _ _ _ _ _ => cW) (fun _ _ _ _ _ => (aL lX (hr.mono (by decide)) rfl b8.mg b8.fn.kp b8.bd bu hP hw hK ht XR.none (aa (qv 1) (aa (qv 2) ah))))))
    (av (tX (i := 5) bf.nd rfl rfl (N' := ["_law_place", "_law_turns"]) (tn := 1) (idx := [13]) rfl (show dy ["_law_bag_here", "_law_most", "_law_many", "_law_ways", "_law_kind", "_law_rows", "_law_order_here", "_law_period", "_law_stays", "_law_k", "_law_place", "_law_onward", "_law_goals", "_law_turns"] (ai b7) _ ["_law_place", "_law_turns"] 1 [13] from by decide +kernel) (bN rfl bl.range_ (aa (qv 2) ah)) (fun _ _ _ _ _ => (aR (i := 0) (show List.Nodup [("_law_place" : Str), ("_law_turns" : Str)] from by decide +kernel) rfl (Or.inr rfl))) (fun _ _ _ _ _ => cW) (fun _ _ _ _ _ => (je (N' := ["_law_turn", "_law_place"]) (tn := 1) (idx := [0]) rfl (aF.rel (show aF ["_law_place", "_law_turns"] _ _ ["_law_turn", "_law_place"] 1 [0] from by decide +kernel)) (pT (K := K) rfl (qv 1)) (fun _ _ _ _ _ => (aR (i := 0) (show List.Nodup [("_law_turn" : Str), ("_law_place" : Str)] from by decide +kernel) rfl (Or.inl rfl))) (fun _ _ _ _ _ => cW) (fun _ _ _ _ _ => (bC (cH (K := K) rfl) (qv 0) (qv 1) (fun _ _ => rfl))))))))
      qss_nil)
    (ak (cL (QW.pt (mF (a9 jc (qv 4) aw (bE _)) (lF (QW.pt (oP (a9 jc (qv 4) aw (bE _)) (mE (a9 jc (qv 8) aw (bE _))))))))
      (av (j7 (aL bG (hr.mono (by decide)) rfl au.mg au.fn.kp au.bd bu hP hw hK ht XR.none (aa (qv 0) (aa (qv 2) ah))) (j9 (bC (cH (K := K) rfl) (qv 5) (bC (cH (K := K) rfl) (qv 6) aw (fun _ _ => rfl)) (fun _ _ => rfl)) (aL bG (hr.mono (by decide)) rfl au.mg au.fn.kp au.bd bu hP hw hK ht XR.none (aa (qv 0) (aa (qv 3) ah))))))
      qss_nil)
    (av (zD 5 rfl (aX (ig (pW (K := K) rfl) rfl bl.tuple_ gK (aa (fo (N' := ["_law_row"]) (tn := 1) (idx := []) rfl (show aF ["_law_bag_here", "_law_most", "_law_many", "_law_ways", "_law_kind", "_law_rows", "_law_order_here", "_law_period", "_law_stays", "_law_k", "_law_place", "_law_onward", "_law_goals", "_law_turns"] (ai b7) _ ["_law_row"] 1 [] from by decide +kernel) (pT (K := K) rfl (qv 5)) (fun _ _ _ _ _ => (aR (i := 0) (show List.Nodup [("_law_row" : Str)] from by decide +kernel) rfl (Or.inl rfl))) (fun _ _ _ _ _ => cW) (fun _ _ _ _ _ => (ig (pW (K := K) rfl) rfl bl.tuple_ gK (aa (qv 0) ah)))) ah))))))))))))))), ?_⟩
  subst e
  have big : (100 : Nat) < sizeLine := by decide
  refine JO (fun ρ M => ∃ (n ways kind stays : Nat) (r : Addr) (as : List Addr) (os : List Int) (x7 x9 d9 lY dC : Option Dv), (bg x7 ∧ bg x9 ∧ bg d9 ∧ bg lY ∧ bg dC) ∧ ρ = [some (.ptr b), some (.int (most : Nat)), some (.int (n : Nat)), some (.int (ways : Nat)), some (.int (kind : Nat)), some (.ptr r), some (jC os), x7, some (.int (stays : Nat)), x9, d9, lY, dC, none] ∧ cM Γ.M0 M r as n ways ∧ eh n os ∧ 1 ≤ n ∧ n ≤ most ∧ (ways = 2 ∨ ways = 3)) (fun N hN => ?_) ?_
  · simp! only []
    refine ⟨b, _, rfl, hb, by omega, by omega, fun m hm => ?_⟩
    obtain ⟨n, hn⟩ : ∃ n : Nat, (1 + (m : Int)) = (n : Nat) := ⟨1 + m, by omega⟩
    have n1 : 1 ≤ n := by omega
    have n9 : n ≤ most := by omega
    simp! only [hn]
    refine ⟨b, _, rfl, hb, by omega, by omega, fun v hv => ?_⟩
    obtain ⟨ways, JQ⟩ : ∃ ways : Nat, (2 + (v : Int)) = (ways : Nat) := ⟨2 + v, by omega⟩
    have w2 : ways = 2 ∨ ways = 3 := by omega
    simp! only [JQ]
    refine ⟨b, _, rfl, hb, by omega, by omega, fun kind mC => ?_⟩
    simp! only []
    refine ⟨by omega, by omega, by omega, ?_⟩
    refine fH (acc := []) (fun acc τ M => ∃ as : List Addr, acc = as.map Dv.ptr ∧ (∃ x, τ = [x, some (.ptr b), some (.int (n : Nat)), some (.int (ways : Nat))]) ∧ jm Γ.M0 M ∧ ∀ a ∈ as, Γ.M0 a = none ∧ ∃ row : List Int, M a = some (.lst (row.map .int)) ∧ eY n ways row) ⟨[], rfl, ⟨_, rfl⟩, .refl, fun _ h => nomatch h⟩ (fun i d acc τ M hd _ ⟨as, e1, ⟨x, e2⟩, hO, ha⟩ R hR => ?_) (fun ys τ M hl ⟨as, e1, ⟨x, e2⟩, hO, ha⟩ => ?_)
    · subst e1 e2
      simp! only []
      refine ⟨by omega, by omega, by omega, rX (n := n) (fun τ => ∃ y, τ = [y, some (.ptr b), some (.int (n : Nat))]) ⟨_, rfl⟩ (fun d hd τ ⟨y, e⟩ R2 HS => ?_) (fun row hl nW a jz => ?_)⟩
      · subst e
        simp! only []
        exact ⟨b, _, rfl, hO.kp _ _ hb, by omega, by omega, fun d hd => HS _ _ (by omega) (by omega) ⟨_, rfl⟩⟩
      · exact hR _ _ _ (rA hO ha jz ⟨by simpa [rangeD_len] using hl, nW⟩ ⟨_, rfl⟩)
    · rw [List.nil_append] at e1
      subst e1 e2
      intro r OD
      have RM := cM.mk' (n := n) (ways := ways) hO OD (by simpa [rangeD_len] using hl) ha
      refine ⟨b, n, rfl, RM.kp _ _ hb, by omega, fun os lW => ?_⟩
      simp! only []
      refine ⟨b, _, rfl, RM.kp _ _ hb, by omega, by omega, fun pe PH => ?_⟩
      simp! only []
      refine ⟨b, _, rfl, RM.kp _ _ hb, by omega, by omega, fun stays mW => ?_⟩
      obtain ⟨per, MA⟩ : ∃ per : Nat, (1 + (pe : Int)) = (per : Nat) := ⟨1 + pe, by omega⟩
      simp! only [MA]
      have sP := lW.len
      refine cV (fun i ρ M => ∃ (as : List Addr) (x9 d9 lY dC : Option Dv), (bg x9 ∧ bg d9 ∧ bg lY ∧ bg dC) ∧ ρ = [some (.ptr b), some (.int (most : Nat)), some (.int (n : Nat)), some (.int (ways : Nat)), some (.int (kind : Nat)), some (.ptr r), some (jC os), some (.int (per : Nat)), some (.int (stays : Nat)), x9, d9, lY, dC, none] ∧ cM Γ.M0 M r as n ways)
        ⟨as, _, _, _, _, ⟨.none, .none, .none, .none⟩, rfl, RM⟩ (fun i d ρ M N2 hd ⟨as, x9, d9, lY, dC, ⟨p9, jK, Dd, jL⟩, e1, RM⟩ vP => ?_) (fun ρ M ⟨as, x9, d9, lY, dC, ⟨p9, jK, Dd, jL⟩, e1, RM⟩ => ?_)
      · subst e1
        have hd : (c9 (jf (os.map Dv.int).length) (os.map Dv.int))[i]? = some d := by rw [List.length_map]; exact hd
        obtain ⟨y, rfl, hy⟩ := Eg hd
        obtain ⟨place, bV, rfl⟩ := oZ hy
        have hi : i < n := by have := (List.getElem?_eq_some_iff.mp bV).1; omega
        obtain ⟨K0, OG⟩ := lW.mem (List.mem_of_getElem? bV)
        obtain ⟨pk, rfl⟩ := Int.eq_ofNat_of_zero_le K0
        have z6 : pk < n := by omega
        have MB : ((i : Int) + 1) % (n : Int) = (((i + 1) % n : Nat) : Int) := by push_cast; rfl
        obtain ⟨on, OH, De, HU⟩ := lW.at (i := (i + 1) % n) (Nat.mod_lt _ (by omega))
        obtain ⟨vQ, rfl⟩ := Int.eq_ofNat_of_zero_le De
        have step : ∀ {as : List Addr} {M : Mh}, cM Γ.M0 M r as n ways → ∃ a, cZ (as.map Dv.ptr) ((pk : Nat) : Int) = some (.ptr a) ∧ a ∈ as := fun {as M} RM => by
          have hl : pk < as.length := by rw [RM.len]; exact z6
          exact ⟨as[pk], dF (by rw [List.getElem?_map, List.getElem?_eq_getElem hl]; rfl), List.getElem_mem hl⟩
        simp only [zgTup, zgCons, zgNil, zgName, List.set_cons_zero, List.set_cons_succ, List.length_cons, List.length_nil, Nat.reduceAdd, List.getElem?_cons_zero]
        refine ⟨trivial, ?_⟩
        refine o9 (fun ρ M => ∃ (as : List Addr) (dC : Option Dv), bg dC ∧ ρ = [some (.ptr b), some (.int (most : Nat)), some (.int (n : Nat)), some (.int (ways : Nat)), some (.int (kind : Nat)), some (.ptr r), some (jC os), some (.int (per : Nat)), some (.int (stays : Nat)), some (.int (i : Nat)), some (.int (pk : Nat)), some (.int (vQ : Nat)), dC, none] ∧ cM Γ.M0 M r as n ways) (fun N hN => ?_) ?_
        · simp! only [MB, OH]
          exact ⟨by omega, hN _ _ ⟨as, _, jL, rfl, RM⟩⟩
        rintro ρ M ⟨as, dC, jL, rfl, RM⟩
        refine o9 (fun ρ M => ∃ (as : List Addr) (dC : Option Dv), bg dC ∧ ρ = [some (.ptr b), some (.int (most : Nat)), some (.int (n : Nat)), some (.int (ways : Nat)), some (.int (kind : Nat)), some (.ptr r), some (jC os), some (.int (per : Nat)), some (.int (stays : Nat)), some (.int (i : Nat)), some (.int (pk : Nat)), some (.int (vQ : Nat)), dC, none] ∧ cM Γ.M0 M r as n ways) (fun N hN => ?_) ?_
        · simp! only []
          refine dB (fun h => dB (fun h2 => ?_) (fun _ => hN _ _ ⟨as, _, jL, rfl, RM⟩)) (fun _ => hN _ _ ⟨as, _, jL, rfl, RM⟩)
          obtain ⟨a, ea, ha⟩ := step RM
          obtain ⟨row, em, ro⟩ := RM.row a ha
          simp only [RM.rm, ea]
          refine ⟨b, _, rfl, RM.kp _ _ hb, by omega, by omega, fun t ht => ?_⟩
          simp only [em, List.length_map, ro.1, mP (show t < ways by omega)]
          rw [t7]
          exact hN _ _ ⟨as, _, jL, rfl, RM.sQ ha (ro.set De HU)⟩
        rintro ρ M ⟨as, dC, jL, rfl, RM⟩
        refine o9 (fun ρ M => ∃ (as : List Addr) (dC : Option Dv), bg dC ∧ ρ = [some (.ptr b), some (.int (most : Nat)), some (.int (n : Nat)), some (.int (ways : Nat)), some (.int (kind : Nat)), some (.ptr r), some (jC os), some (.int (per : Nat)), some (.int (stays : Nat)), some (.int (i : Nat)), some (.int (pk : Nat)), some (.int (vQ : Nat)), dC, none] ∧ cM Γ.M0 M r as n ways) (fun N hN => ?_) ?_
        · simp! only []
          refine dB (fun h => ?_) (fun _ => hN _ _ ⟨as, _, jL, rfl, RM⟩)
          have PJ : ∀ j : Nat, ((j : Int) % (per : Int)) = ((j % per : Nat) : Int) := fun j => by push_cast; rfl
          refine ⟨by omega, by omega, by omega, p0 (B5 per i) (fun d => .int (ph os d)) (fun τ M' => (∃ x, τ = [x, some (jC os), some (.int (per : Nat)), some (.int (i : Nat))]) ∧ M' = M) ⟨⟨_, rfl⟩, rfl⟩ (fun d hd τ M' ⟨⟨x, e⟩, eM⟩ R0 R h1 h2 => ?_) (fun τ M' ⟨⟨x, e⟩, eM⟩ => ?_)⟩
          · subst e eM
            obtain ⟨j, hj, rfl⟩ := oY hd
            simp only [Int.zero_add] at h1 h2 ⊢
            obtain ⟨gx, ny, g0, g1⟩ := lW.at hj
            have hg : ph os (.int (j : Nat)) = gx := t8 ny
            simp! only [ny]
            refine ⟨by omega, by omega, dB (fun h => ?_) (fun h => ?_)⟩
            · rw [hg] at h1
              exact h1 h _ _ ⟨⟨_, rfl⟩, rfl⟩
            · exact h2 h _ _ ⟨⟨_, rfl⟩, rfl⟩
          · subst e eM
            obtain ⟨gs, OI, PK, PL, OJ⟩ := B6 (i := i) lW (per := per) (by omega) (by omega)
            rw [OI]
            refine ⟨by omega, by omega, by omega, rX (n := n) (fun τ => ∃ y, τ = [y, some (jC gs), some (.ptr b)]) ⟨_, rfl⟩ (fun d hd τ ⟨y, e⟩ R hR => ?_) (fun row hl nW a jz => ?_)⟩
            · subst e
              simp! only []
              refine ⟨b, _, rfl, RM.kp _ _ hb, by omega, by omega, fun t ht => ?_⟩
              have Dg : t < gs.length := by omega
              simp only [show cZ (gs.map Dv.int) (t : Int) = some (.int gs[t]) from dF (by rw [List.getElem?_map, List.getElem?_eq_getElem Dg]; rfl)]
              obtain ⟨q0, q1⟩ := OJ _ (List.getElem_mem Dg)
              exact hR _ _ q0 q1 ⟨_, rfl⟩
            · have nr : r ≠ a := fun z => by rw [← z, RM.rm] at jz; cases jz
              simp only [aj nr, RM.rm, List.length_map, RM.len, mP z6]
              exact hN _ _ ⟨_, _, .lI gs, rfl, RM.put jz ⟨by simpa [rangeD_len] using hl, nW⟩ z6⟩
        rintro ρ M ⟨as, dC, jL, rfl, RM⟩
        simp! only []
        refine dB (fun h => ?_) (fun _ => vP _ _ ⟨as, _, _, _, _, ⟨.int _, .int _, .int _, jL⟩, rfl, RM⟩)
        refine ⟨by omega, ⟨by omega, by omega, by omega, by omega⟩, by omega, rX (n := n) (fun τ => ∃ y, τ = [y, some (.int (stays : Nat)), some (.int (vQ : Nat)), some (.int (pk : Nat))]) ⟨_, rfl⟩ (fun d hd τ ⟨y, e⟩ R hR => ?_) (fun row hl nW => ⟨?_, fun a jz => ?_⟩)⟩
        · subst e
          simp! only []
          have OM : stays = 0 ∨ stays = 1 := by omega
          rcases OM with rfl | rfl
          · exact ⟨by omega, hR _ _ De HU ⟨_, rfl⟩⟩
          · exact ⟨by omega, hR _ _ K0 OG ⟨_, rfl⟩⟩
        · rw [List.length_map, hl, rangeD_len]; omega
        · have nr : r ≠ a := fun z => by rw [← z, RM.rm] at jz; cases jz
          have er : Dv.int (vQ : Nat) :: row.map Dv.int = ((vQ : Int) :: row).map Dv.int := rfl
          rw [er]
          simp only [aj nr, RM.rm, List.length_map, RM.len, mP z6]
          refine vP _ _ ⟨_, _, _, _, _, ⟨.int _, .int _, .int _, jL⟩, rfl, RM.put jz ⟨?_, fun x hx => ?_⟩ z6⟩
          · rw [List.length_cons, hl, rangeD_len]; omega
          · rcases List.mem_cons.mp hx with z | z
            · rw [z]; exact ⟨De, HU⟩
            · exact nW x z
      · exact hN _ _ ⟨n, ways, kind, stays, r, as, os, _, _, _, _, _, ⟨.int _, p9, jK, Dd, jL⟩, e1, RM, lW, n1, n9, w2⟩
  · rintro ρ M ⟨n, ways, kind, stays, r, as, os, x7, x9, d9, lY, dC, ⟨p7, p9, jK, Dd, jL⟩, rfl, RM, lW, n1, n9, w2⟩
    have sP := lW.len
    refine o9 (fun ρ M => ∃ (r : Addr) (as : List Addr) (jb : Option Dv), bg jb ∧ ρ = [some (.ptr b), some (.int (most : Nat)), some (.int (n : Nat)), some (.int (ways : Nat)), some (.int (kind : Nat)), some (.ptr r), some (jC os), x7, some (.int (stays : Nat)), x9, d9, lY, dC, jb] ∧ cM Γ.M0 M r as n ways) (fun N hN => ?_) ?_
    · simp! only []
      refine dB (fun h => ?_) (fun _ => hN _ _ ⟨r, as, _, .none, rfl, RM⟩)
      refine ⟨by omega, by omega, by omega, fH (acc := []) (fun acc τ M' => ∃ ts : List (List Int), acc = ts.map jC ∧ (∃ x, τ = [x, some (.ptr b), some (.int (n : Nat))]) ∧ (∀ o ∈ ts, eh n o) ∧ M' = M) ⟨[], rfl, ⟨_, rfl⟩, (fun _ h => nomatch h), rfl⟩ (fun i d acc τ M' hd _ ⟨ts, e1, ⟨x, e2⟩, hT, eM⟩ R hR => ?_) (fun ys τ M' hl ⟨ts, e1, ⟨x, e2⟩, hT, eM⟩ => ?_)⟩
      · subst e1 e2 eM
        simp! only []
        refine ⟨b, n, rfl, RM.kp _ _ hb, by omega, fun o ho => hR _ _ _ ⟨ts ++ [o], by rw [List.map_append]; rfl, ⟨_, rfl⟩, fun c hc => ?_, rfl⟩⟩
        rcases List.mem_append.mp hc with z | z
        · exact hT c z
        · rw [List.mem_singleton] at z; rw [z]; exact ho
      · rw [List.nil_append] at e1
        subst e1 e2 eM
        have Dg : ts.length = ways := by simpa [rangeD_len] using hl
        refine ⟨by omega, by omega, by omega, fH (acc := []) (fun acc τ M => ∃ as : List Addr, acc = as.map Dv.ptr ∧ (∃ x, τ = [x, some (.lst (ts.map jC))]) ∧ jm Γ.M0 M ∧ ∀ a ∈ as, Γ.M0 a = none ∧ ∃ row : List Int, M a = some (.lst (row.map .int)) ∧ eY n ways row) ⟨[], rfl, ⟨_, rfl⟩, RM.own, fun _ h => nomatch h⟩ (fun i d acc τ M hd _ ⟨as, e1, ⟨x, e2⟩, hO, ha⟩ R hR => ?_) (fun ys τ M hl ⟨as, e1, ⟨x, e2⟩, hO, ha⟩ => ?_)⟩
        · subst e1 e2
          obtain ⟨rfl, hi⟩ := dn hd
          simp! only []
          refine ⟨by omega, rX (n := n) (fun τ => ∃ y, τ = [y, some (.int (i : Nat))]) ⟨_, rfl⟩ (fun d hd τ ⟨y, e⟩ R2 HS => ?_) (fun row hl nW a jz => ?_)⟩
          · subst e
            obtain ⟨o, ho, rfl⟩ := List.mem_map.mp hd
            obtain ⟨gx, ny, g0, g1⟩ := (hT o ho).at hi
            simp! only [ny]
            exact HS _ _ g0 g1 ⟨_, rfl⟩
          · exact hR _ _ _ (rA hO ha jz ⟨by rw [hl, List.length_map]; exact Dg, nW⟩ ⟨_, rfl⟩)
        · rw [List.nil_append] at e1
          subst e1 e2
          intro r2 OO
          refine hN _ _ ⟨r2, as, _, fun M d e => ?_, rfl, cM.mk' (n := n) (ways := ways) hO OO (by simpa [rangeD_len] using hl) ha⟩
          cases e
          exact .lst fun d hd => by obtain ⟨o, _, rfl⟩ := List.mem_map.mp hd; exact .lst (gN o)
    rintro ρ M ⟨r, as, jb, z7, rfl, RM⟩
    refine o9 (fun ρ M => ∃ (r : Addr) (as : List Addr) (jb : Option Dv), bg jb ∧ ρ = [some (.ptr b), some (.int (most : Nat)), some (.int (n : Nat)), some (.int (ways : Nat)), some (.int (kind : Nat)), some (.ptr r), some (jC os), x7, some (.int (stays : Nat)), x9, d9, lY, dC, jb] ∧ cM Γ.M0 M r as n ways) (fun N hN => ?_) ?_
    · simp! only []
      obtain ⟨gx, ny, g0, g1⟩ := lW.at (i := 0) (by omega)
      obtain ⟨gk, rfl⟩ := Int.eq_ofNat_of_zero_le g0
      have ny : cZ (os.map Dv.int) 0 = some (.int (gk : Nat)) := ny
      have vd : gk < as.length := by rw [RM.len]; omega
      have ea : cZ (as.map Dv.ptr) (gk : Int) = some (.ptr as[gk]) := dF (by rw [List.getElem?_map, List.getElem?_eq_getElem vd]; rfl)
      have ha := List.getElem_mem vd
      obtain ⟨row, em, ro⟩ := RM.row as[gk] ha
      simp only [ny]
      have put : pf [.ptr b, .int (n : Nat)] M (fun d M1 => match (match M1 r with | some (.lst ds) => some ds | _ => none) with
          | some ds => (match cZ ds (gk : Int) with
            | some OQ => pf [.ptr b, .int (ways : Nat)] M1 (fun i M2 => match OQ, i with
              | .ptr a, .int k => (match M2 a with
                | some (.lst xs) => (match g7 xs.length k with
                  | some j => N [some (.ptr b), some (.int (most : Nat)), some (.int (n : Nat)), some (.int (ways : Nat)), some (.int (kind : Nat)), some (.ptr r), some (jC os), x7, some (.int (stays : Nat)), x9, d9, lY, dC, jb] (ax M2 a (.lst (xs.set j d)))
                  | none => False)
                | _ => False)
              | _, _ => False) fun _ _ => False
            | none => False)
          | none => False) fun _ _ => False := by
        refine ⟨b, _, rfl, RM.kp _ _ hb, by omega, by omega, fun u hu => ?_⟩
        simp only [RM.rm, ea]
        refine ⟨b, _, rfl, RM.kp _ _ hb, by omega, by omega, fun t ht => ?_⟩
        simp only [em, List.length_map, ro.1, mP (show t < ways by omega)]
        rw [t7]
        exact hN _ _ ⟨r, as, _, z7, rfl, RM.sQ ha (ro.set (by omega) (by omega))⟩
      exact dB (fun _ => put) (fun _ => dB (fun _ => dB (fun _ => put) (fun _ => hN _ _ ⟨r, as, _, z7, rfl, RM⟩)) (fun _ => hN _ _ ⟨r, as, _, z7, rfl, RM⟩))
    rintro ρ M ⟨r, as, jb, z7, rfl, RM⟩
    have nb : ∀ {c o}, Γ.M0 c = some o → c ≠ r := fun e z => by rw [z, RM.r0] at e; cases e
    have dk : Keeps Γ.M0 (dg M r) := fun c o e => by rw [bF (nb e)]; exact RM.kp c o e
    refine .inr ⟨r, _, rfl, RM.rm, RM.r0, ⟨fun j d e => ?_, fun c o e => ?_⟩, ?_⟩
    · match j, e with
      | 0, e => cases e; exact .ptr (by rw [dk _ _ hb]; rfl)
      | 1, e => cases e; exact .int _
      | 2, e => cases e; exact .int _
      | 3, e => cases e; exact .int _
      | 4, e => cases e; exact .int _
      | 5, e => cases e; exact .lst fun d hd => by
                  obtain ⟨a, ha, rfl⟩ := List.mem_map.mp hd
                  obtain ⟨row, em, _⟩ := RM.row a ha
                  exact .ptr (by rw [bF (RM.fr a ha).2, em]; rfl)
      | 6, e => cases e; exact .lst (gN _)
      | 7, e => exact p7 _ _ (Option.some.inj e)
      | 8, e => cases e; exact .int _
      | 9, e => exact p9 _ _ (Option.some.inj e)
      | 10, e => exact jK _ _ (Option.some.inj e)
      | 11, e => exact Dd _ _ (Option.some.inj e)
      | 12, e => exact jL _ _ (Option.some.inj e)
      | 13, e => exact z7 _ _ (Option.some.inj e)
      | j + 14, e => exact nomatch e
    · have nc : c ≠ r := fun z => by rw [z, cS] at e; cases e
      rw [bF nc] at e
      rcases RM.pin c o e with q | q | ⟨row, rfl⟩ | ⟨bs, rfl, q2⟩
      · exact .inl q
      · exact absurd q nc
      · exact .inr (gN row)
      · refine .inr fun d hd => ?_
        obtain ⟨a, ha, rfl⟩ := List.mem_map.mp hd
        obtain ⟨h1, u, h2⟩ := q2 a ha
        exact .ptr (by rw [bF h1, h2]; rfl)
    · simp! only []
      refine ⟨by rw [RM.len]; omega, fH (acc := []) (fun acc τ M' => ∃ rs : List (List Int), acc = rs.map eI ∧ (∃ x, τ = [x]) ∧ (∀ row ∈ rs, eY n ways row) ∧ M' = dg M r) ⟨[], rfl, ⟨_, rfl⟩, (fun _ h => nomatch h), rfl⟩ (fun i d acc τ M' hd _ ⟨rs, e1, ⟨x, e2⟩, Dh, eM⟩ R hR => ?_) (fun ys τ M' hl ⟨rs, e1, ⟨x, e2⟩, Dh, eM⟩ => ?_)⟩
      · subst e1 e2 eM
        obtain ⟨a, ha, rfl⟩ := oZ hd
        have ha := List.mem_of_getElem? ha
        obtain ⟨row, em, ro⟩ := RM.row a ha
        simp! only [bF (RM.fr a ha).2, em]
        refine hR _ _ _ ⟨rs ++ [row], by rw [List.map_append]; rfl, ⟨_, rfl⟩, fun c hc => ?_, rfl⟩
        rcases List.mem_append.mp hc with z | z
        · exact Dh c z
        · rw [List.mem_singleton] at z; rw [z]; exact ro
      · rw [List.nil_append] at e1
        subst e1 e2 eM
        have OS : rs.length = n := by rw [List.length_map, List.length_map, RM.len] at hl; exact hl
        exact jD dk (zz rs) (q rs ways ⟨by omega, by omega, w2, fun row hr => ⟨(Dh row hr).1, fun g hg => by rw [OS]; exact (Dh row hr).2 g hg⟩⟩ (by omega))
end
section
variable {P : Program} {w : World} {K : PySem.W.Frag} {mg : Str → Option Value} {base : Heap} {tb : cP}
theorem uT : aQ ["thing"] ["thing"] (ai dq) := ⟨rfl, rfl, rfl, by decide +kernel, rfl, by decide +kernel, by decide +kernel⟩
theorem mQ : aQ ["thing", "many"] ["thing", "many"] (ai bQ) := ⟨rfl, rfl, rfl, by decide +kernel, rfl, by decide +kernel, by decide +kernel⟩
theorem z8 : aQ ["thing", "many", "width"] ["thing", "many", "width"] (ai jj) := ⟨rfl, rfl, rfl, by decide +kernel, rfl, by decide +kernel, by decide +kernel⟩
theorem lZ : aQ ["thing", "many", "width"] ["thing"] (ai jk) := ⟨rfl, rfl, rfl, by decide +kernel, rfl, by decide +kernel, by decide +kernel⟩
noncomputable def l0 (d : Dv) : Bool := (isD "int" (fun _ => none) d).isSome
noncomputable def z9 : Dv → Bool | .int _ => true | _ => false
noncomputable def cq (m : Int) : Dv → Bool | .int i => decide (0 ≤ i) && decide (i < m) | _ => false
noncomputable def HV : cI := fun ds M Q _ => ∃ d, ds = [d] ∧ l0 d = true ∧ Q (.bl (z9 d)) M
theorem uU {f : Addr} {fd : FuncData} (D : Df K mg "is_whole" dq ["thing"] f fd) (bl : Bl mg) : FnOk P w K mg base bt 1 f fd ["thing"] (bz P w K tb HV) := by
  refine eQ D uT (fun ds M Q E hS => by obtain ⟨d, e, _⟩ := hS; rw [e]; rfl) fun A outer s E Γ ds Q' E' hP hw hK ht hr hS => ?_
  obtain ⟨d, e, hk, q⟩ := hS
  refine ⟨_, (av (aX (oR (aH (gM (K := K) rfl) rfl bl.isinstance_ dj (aa (qv 0) (aa (iO (v := .ty "int") rfl bl.int_ Gg rfl) ah))) (oQ (G3 (aH (gM (K := K) rfl) rfl bl.isinstance_ dj (aa (qv 0) (aa (iO (v := .ty "bool") rfl bl.bool_ DP rfl) ah)))))))), ?_⟩
  subst e
  cases d <;> first | exact ⟨by decide, ⟨by decide, .inl q⟩⟩ | exact ⟨by decide, .inl q⟩ | exact nomatch hk
noncomputable def HW : cI := fun ds M Q _ => ∃ d m, ds = [d, .int m] ∧ l0 d = true ∧ Q (.bl (cq m d)) M
theorem iB {f f1 : Addr} {fd bS : FuncData} (D : Df K mg "is_whole_below" bQ ["thing", "many"] f fd) (bj : Df K mg "is_whole" dq ["thing"] f1 bS) (bl : Bl mg) : FnOk P w K mg base bt 2 f fd ["thing", "many"] (bz P w K tb HW) := by
  have xt := uU (P := P) (w := w) (base := base) (tb := tb) bj bl
  refine eQ D mQ (fun ds M Q E hS => by obtain ⟨d, m, e, _⟩ := hS; rw [e]; rfl) fun A outer s E Γ ds Q' E' hP hw hK ht hr hS => ?_
  obtain ⟨d, m, e, hk, q⟩ := hS
  refine ⟨_, (av (aX (oR (aL xt (hr.mono (by decide)) rfl bj.mg bj.fn.kp bj.bd bu hP hw hK ht XR.none (aa (qv 0) ah)) (oQ (BI wV pV aw (qv 0) (qv 1)))))), ?_⟩
  subst e
  refine ⟨d, rfl, hk, ?_⟩
  cases d with
  | int i =>
    simp! only [z9]
    refine dB (fun h => ?_) (fun h => ?_)
    · rw [show cq m (.int i) = decide (i < m) by simp only [cq, h, Bool.true_and]] at q
      exact .inl q
    · rw [show cq m (.int i) = false by simp only [cq, h, Bool.false_and]] at q
      exact .inl q
  | _ => exact .inl q
noncomputable def gP (m : Int) (w : Nat) : Dv → Bool | .tup ds => decide (ds.length = w) && ds.all (cq m) | _ => false
noncomputable def B7 : Dv → Bool | .tup ds => ds.all l0 | d => l0 d
noncomputable def HX : cI := fun ds M Q _ => ∃ d m w, ds = [d, .int m, .int (w : Nat)] ∧ B7 d = true ∧ Q (.bl (gP m w d)) M
theorem Aa {f f1 f2 : Addr} {fd bS fd2 : FuncData} {kA aV : Addr} (D : Df K mg "is_row" jj ["thing", "many", "width"] f fd) (gQ : ve base fd kA aV) (hp : aV ∈ tb) (eA : ∃ bm ob, BMod base mainGlobals mg bm ob)
    (aE : Df K mg "is_whole_below" bQ ["thing", "many"] f1 bS) (bj : Df K mg "is_whole" dq ["thing"] f2 fd2) (bl : Bl mg) : FnOk P w K mg base bt 4 f fd ["thing", "many", "width"] (bz P w K tb HX) := by
  have fI := iB (P := P) (w := w) (base := base) (tb := tb) aE bj bl
  refine eQ D z8 (fun ds M Q E hS => by obtain ⟨d, m, n, e, _⟩ := hS; rw [e]; rfl) fun A outer s E Γ ds Q' E' hP hw hK ht hr hS => ?_
  obtain ⟨d, m, n, e, hk, q⟩ := hS
  have xu : aV ∈ Γ.tb := ht ▸ hp
  refine ⟨_, (ak (cL (QW.pt (mF (ie (ib (aH (gM (K := K) rfl) rfl bl.isinstance_ dj (aa (qv 0) (aa (iO (v := .ty "tuple") rfl bl.tuple_ gK rfl) ah))))) (lF (a9 Mb (aH (dX (K := K) rfl hK) rfl bl.len_ PySem.boot_len (aa (qv 0) ah)) (qv 2) (bE _)))))
      (av (aX iG))
      qss_nil)
    (av (aX (tI (k := 2) (N' := ["goal", "many"]) (tn := 1) (idx := [1]) xu (hr.mono (by decide)) rfl (show aF ["thing", "many", "width"] (ai jj) _ ["goal", "many"] 1 [1] from by decide +kernel) rfl rfl gQ.code gQ.hd eA rfl bl.all_ (lJ (K := K) rfl (qv 0)) (fun _ _ _ _ _ _ _ hr => (aR (i := 0) (show List.Nodup [("goal" : Str), ("many" : Str)] from by decide +kernel) rfl (Or.inl rfl))) (fun _ _ _ _ _ _ _ hr => cW) (fun _ _ _ _ _ _ _ hr => (aL fI (hr.mono (by decide)) rfl aE.mg aE.fn.kp aE.bd bu hP hw hK ht XR.none (aa (qv 0) (aa (qv 1) ah)))))))), ?_⟩
  subst e
  cases d with
  | tup es =>
    refine ⟨by decide, dB (c := !decide ((es.length : Int) = (n : Nat))) (fun h => ?_) (fun h => ?_)⟩
    · rw [show gP m n (.tup es) = false by simp at h; simp [gP]; intro z; omega] at q
      exact .inl q
    · rw [show gP m n (.tup es) = es.all (cq m) by simp at h; simp [gP, show es.length = n by omega]] at q
      refine mM (cq m) (fun τ => ∃ x, τ = [x, some (.int m)]) ⟨none, rfl⟩ (fun d hd τ ⟨x, e⟩ R hR => ?_) (.inl q)
      subst e
      exact ⟨d, m, rfl, List.all_eq_true.mp hk d hd, hR _ ⟨_, rfl⟩⟩
  | _ => first | exact ⟨by decide, .inl q⟩ | exact nomatch hk
noncomputable def jn : Dv → Bool | .tup rs => decide (1 ≤ rs.length ∧ rs.length ≤ 9) && (rs.all (gP rs.length 2) || rs.all (gP rs.length 3)) | _ => false
noncomputable def xx : Dv → Bool | .tup rs => rs.all B7 | d => l0 d
noncomputable def HY : cI := fun ds M Q _ => ∃ d, ds = [d] ∧ xx d = true ∧ Q (.bl (jn d)) M
theorem Ab {f f1 f2 f3 : Addr} {fd bS fd2 t9 : FuncData} {kA aV ua bo : Addr} (D : Df K mg "is_net" jk ["thing"] f fd) (kB : ve base fd ua bo) (OT : bo ∈ tb) (fJ : Df K mg "is_row" jj ["thing", "many", "width"] f3 t9) (gQ : ve base t9 kA aV) (hp : aV ∈ tb) (eA : ∃ bm ob, BMod base mainGlobals mg bm ob)
    (aE : Df K mg "is_whole_below" bQ ["thing", "many"] f1 bS) (bj : Df K mg "is_whole" dq ["thing"] f2 fd2) (bl : Bl mg) {tk : Tok} (gR : mg "MOST_PLACES" = some (.int 9 tk)) : FnOk P w K mg base bt 6 f fd ["thing"] (bz P w K tb HY) := by
  have B8 := Aa (P := P) (w := w) (tb := tb) fJ gQ hp eA aE bj bl
  refine eQ D lZ (fun ds M Q E hS => by obtain ⟨d, e, _⟩ := hS; rw [e]; rfl) fun A outer s E Γ ds Q' E' hP hw hK ht hr hS => ?_
  obtain ⟨d, e, hk, q⟩ := hS
  have kC : bo ∈ Γ.tb := ht ▸ OT
  refine ⟨_, (ak (cL (QW.pt (mF (ie (ib (aH (gM (K := K) rfl) rfl bl.isinstance_ dj (aa (qv 0) (aa (iO (v := .ty "tuple") rfl bl.tuple_ gK rfl) ah))))) (lF (ie (tm wV wV aw (aH (dX (K := K) rfl hK) rfl bl.len_ PySem.boot_len (aa (qv 0) ah)) (BG (i := 9) rfl gR ⟨_, rfl⟩))))))
      (av (aX iG))
      qss_nil)
    (ak (aN (i := 1) lZ.nd rfl (Or.inr rfl) (aH (dX (K := K) rfl hK) rfl bl.len_ PySem.boot_len (aa (qv 0) ah)))
    (ak (eO PassesOwn.never rfl (lJ (K := K) rfl (lH (aa aw (aa aw ah)))) (fun nv eP ew eK et => by have hP := hP.trans eP.symm; have hw := hw.trans ew.symm; have hK := hK.trans eK.symm; have ht := ht.trans et.symm; have kC := et.symm ▸ kC; exact ⟨(aR (i := 2) lZ.nd rfl (Or.inr rfl)), (av (cL (ib (tI (k := 4) (N' := ["row", "many", "width"]) (tn := 1) (idx := [1, 2]) kC (hr.mono (by decide)) rfl (show aF ["thing", "many", "width"] (ai jk) _ ["row", "many", "width"] 1 [1, 2] from by decide +kernel) rfl rfl kB.code kB.hd eA rfl bl.all_ (lJ (K := K) rfl (qv 0)) (fun _ _ _ _ _ _ _ hr => (aR (i := 0) (show List.Nodup [("row" : Str), ("many" : Str), ("width" : Str)] from by decide +kernel) rfl (Or.inl rfl))) (fun _ _ _ _ _ _ _ hr => cW) (fun _ _ _ _ _ _ _ hr => (aL B8 (hr.mono (by decide)) rfl fJ.mg fJ.fn.kp fJ.bd bu hP hw hK ht XR.none (aa (qv 0) (aa (qv 1) (aa (qv 2) ah)))))))
      (av (aX iG))
      qss_nil))⟩))
    (av (aX iG))))), ?_⟩
  subst e
  cases d with
  | tup rs =>
    refine ⟨by decide, ?_⟩
    have row : ∀ (n : Nat) (D : Bool → Mh → Prop), (D (rs.all (gP rs.length n)) Γ.M0) → jA (zgName 0) zNoIf (zCall HX (fun _ _ => False) (zCons (zVar 0) (zCons (zVar 1) (zCons (zVar 2) zNil)))) rs [none, some (.int rs.length), some (.int (n : Nat))] Γ.M0 D := fun n D hD => by
      refine mM (gP rs.length n) (fun τ => ∃ x, τ = [x, some (.int rs.length), some (.int (n : Nat))]) ⟨none, rfl⟩ (fun d hd τ ⟨x, e⟩ R hR => ?_) hD
      subst e
      exact ⟨d, rs.length, n, rfl, List.all_eq_true.mp hk d hd, hR _ ⟨_, rfl⟩⟩
    simp! only []
    refine dB (fun h1 => dB (fun h2 => ?_) (fun h2 => ⟨by decide, ?_⟩)) (fun h1 => ?_)
    · rw [show jn (.tup rs) = false by simp at h1 h2; simp [jn]; intro z; omega] at q
      exact .inl q
    · have e : jn (.tup rs) = (rs.all (gP rs.length 2) || rs.all (gP rs.length 3)) := by
        simp at h1 h2
        simp only [jn]
        rw [decide_eq_true (by omega), Bool.true_and]
      rw [e] at q
      refine row 2 _ (dB (fun z => ?_) (fun z => row 3 _ (dB (fun z2 => ?_) (fun z2 => ?_))))
      · rw [z] at q; exact .inl q
      · rw [z, z2] at q; exact .inl q
      · rw [z, z2] at q; exact .inl q
    · rw [show jn (.tup rs) = false by simp at h1; simp [jn]; intro z; omega] at q
      exact .inl q
  | _ => first | exact ⟨by decide, .inl q⟩ | exact nomatch hk
theorem uV : aQ ["thing"] ["thing"] (ai iJ) := ⟨rfl, rfl, rfl, by decide +kernel, rfl, by decide +kernel, by decide +kernel⟩
theorem Ac {m : Int} {g : Int} (h : 0 ≤ g ∧ g < m) : cq m (.int g) = true := by simp [cq, h.1, h.2]
theorem Ew {af : List (List Int)} {n : Nat} (o : dU af n) : jn (eN af) = true := by
  have hr : ∀ d ∈ af.map eI, gP (af.map eI).length n d = true := fun d hd => by
    obtain ⟨r, hr, rfl⟩ := List.mem_map.mp hd
    obtain ⟨h1, h2⟩ := o.row r hr
    simp only [gP, List.length_map]
    rw [decide_eq_true h1, Bool.true_and, List.all_eq_true]
    intro d hd
    obtain ⟨g, hg, rfl⟩ := List.mem_map.mp hd
    exact Ac (h2 g hg)
  have ho := o.one
  have hn := o.nine
  simp only [jn, eN]
  rw [decide_eq_true (by rw [List.length_map]; omega), Bool.true_and]
  have ha := List.all_eq_true.mpr hr
  rcases o.wid with rfl | rfl
  · rw [ha]; rfl
  · rw [ha, Bool.or_true]
theorem Ez (af : List (List Int)) : xx (eN af) = true := by
  simp only [xx, eN]
  rw [List.all_eq_true]
  intro d hd
  obtain ⟨r, _, rfl⟩ := List.mem_map.mp hd
  simp only [B7, eI]
  rw [List.all_eq_true]
  intro d hd
  obtain ⟨g, hg, rfl⟩ := List.mem_map.mp hd
  rfl
noncomputable def Di (C : Addr) : cI := fun ds M Q E => ∃ d, ds = [d] ∧ xx d = true ∧ (jn d = true → Q .ao M) ∧ (jn d = false → E C M)
theorem uW {f f1 : Addr} {fd bS : FuncData} {C0 cN : Addr} {cs : List Addr} (D : Df K mg "need_net" iJ ["thing"] f fd) (fK : Df K mg "is_net" jk ["thing"] f1 bS) (nX : FnOk P w K mg base bt 6 f1 bS ["thing"] (bz P w K tb HY))
    (X_ : Bv K C0 cs) (qg : cN ∈ cs) (qh : mg "NoNet" = some (.ref cN)) : FnOk P w K mg base (gG P w) 7 f fd ["thing"] (bz P w K tb (Di cN)) := by
  refine wW D uV (fun ds M Q E hS => by obtain ⟨d, e, _⟩ := hS; rw [e]; rfl) fun A outer s E Γ ds Q' E' hP hw hK ht hE hr hS => ?_
  obtain ⟨d, e, hk, q1, q2⟩ := hS
  refine ⟨_, (av (cL (ie (ib (aL nX (hr.mono (by decide)) rfl fK.mg fK.fn.kp fK.bd bu hP hw hK ht XR.none (aa (qv 0) ah))))
      (av (tH (X_.ex _ qg) PySem.F.excBase_ValueError rfl yZ hE rfl qh (aa j5 ah)))
      qss_nil)), ?_⟩
  subst e
  simp! only []
  refine ⟨d, rfl, hk, dB (fun h => ?_) (fun h => ?_)⟩
  · exact ⟨by decide, q2 (by simpa using h)⟩
  · exact .inl (q1 (by simpa using h))
end
noncomputable def kD (ns : List Int) : List Int := sortI (cR ns)
theorem jo {ns : List Int} {k : Int} : k ∈ kD ns ↔ k ∈ ns := (sortI_perm _).mem_iff.trans Bj
theorem gZ (ns : List Int) : (kD ns).Pairwise (· < ·) := by
  have h1 := sT (cR ns)
  have h2 : (kD ns).Nodup := (sortI_perm _).nodup_iff.mpr (wx ns)
  exact (List.Pairwise.and h1 h2).imp fun ⟨a, b⟩ => by omega
theorem kE : ∀ {a b : List Int}, a.Pairwise (· < ·) → b.Pairwise (· < ·) → (∀ k, k ∈ a ↔ k ∈ b) → a = b
  | [], [], _, _, _ => rfl
  | [], y :: b, _, _, h => by have := (h y).mpr List.mem_cons_self; cases this
  | x :: a, [], _, _, h => by have := (h x).mp List.mem_cons_self; cases this
  | x :: a, y :: b, ha, hb, h => by
    obtain ⟨K1, OU⟩ := List.pairwise_cons.mp ha
    obtain ⟨oG, vh⟩ := List.pairwise_cons.mp hb
    have OV : x = y := by
      rcases List.mem_cons.mp ((h x).mp List.mem_cons_self) with e | e
      · exact e
      · rcases List.mem_cons.mp ((h y).mpr List.mem_cons_self) with e' | e'
        · exact e'.symm
        · have := oG x e; have := K1 y e'; omega
    subst OV
    congr 1
    refine kE OU vh fun k => ⟨fun hk => ?_, fun hk => ?_⟩
    · rcases List.mem_cons.mp ((h k).mp (List.mem_cons_of_mem _ hk)) with e | e
      · have := K1 k hk; omega
      · exact e
    · rcases List.mem_cons.mp ((h k).mpr (List.mem_cons_of_mem _ hk)) with e | e
      · have := oG k hk; omega
      · exact e
theorem jM {ns : List Int} (h : ns.Pairwise (· < ·)) : kD ns = ns := kE (gZ _) h fun _ => jo
theorem pj {a b : List Int} (h : ∀ k, k ∈ a ↔ k ∈ b) : kD a = kD b := kE (gZ _) (gZ _) fun k => jo.trans ((h k).trans jo.symm)
structure dh (m : Nat) (ns : List Int) : Prop where
  str : ns.Pairwise (· < ·)
  rng : ∀ p ∈ ns, 0 ≤ p ∧ p < (m : Int)
  ne : ns ≠ []
theorem pq {m : Nat} : ∀ {ns : List Int} {lo : Int}, ns.Pairwise (· < ·) → (∀ p ∈ ns, lo ≤ p ∧ p < (m : Int)) → (ns.length : Int) ≤ max 0 ((m : Int) - lo)
  | [], lo, _, _ => by simp; omega
  | x :: ns, lo, h, hr => by
    obtain ⟨h1, h2⟩ := List.pairwise_cons.mp h
    obtain ⟨r1, r2⟩ := hr x List.mem_cons_self
    have := pq (lo := x + 1) h2 fun p hp => ⟨h1 p hp, (hr p (List.mem_cons_of_mem _ hp)).2⟩
    rw [List.length_cons]
    omega
theorem dh.len {m : Nat} {ns : List Int} (h : dh m ns) : ns.length ≤ m := by
  have := pq (lo := 0) h.str h.rng
  omega
theorem xA (n : Nat) : (fm n).length = n := by simp [fm]
section
variable {P : Program} {w : World} {K : PySem.W.Frag} {mg : Str → Option Value} {base : Heap} {tb : cP}
theorem dJ : aQ ["start", "width", "step", "most", "found", "queue", "met", "at", "goal"] ["start", "width", "step", "most"] (ai gX) := ⟨rfl, rfl, rfl, by decide +kernel, rfl, by decide +kernel, by decide +kernel⟩
noncomputable def Ad (bW : List Dv) (step : List Int → Nat → List Int) (U : List (List Int)) (n : Nat) : List Dv → cI := fun MC ds M Q _ => MC = bW ∧ ∃ (p : List Int) (a : Nat), ds = [eI p, .int ((a : Nat) : Int)] ∧ p ∈ U ∧ a < n ∧ Q (eI (step p a)) M
noncomputable def kT (k : List Int) : List Key := k.map Sum.inl
theorem Ae (a b : List Int) (h : kT a = kT b) : a = b := by
  have := congrArg (List.map fun k : Key => match k with | .inl i => i | .inr _ => 0) h
  simpa [kT, List.map_map, Function.comp_def] using this
theorem ub (k : List Int) : iI (k.map Dv.int) = some (kT k) := o3 k
noncomputable def xB (r : List (List Int) × List Str) : Dv := .dt (r.1.map kT) (r.2.map Dv.str)
noncomputable def vR (P : Program) (w : World) (K : PySem.W.Frag) (mg : Str → Option Value) (tb : cP) (base : Heap) : cI := fun ds M Q _ => ∃ (s : List Int) (step : List Int → Nat → List Int) (U : List (List Int)) (n most : Nat) (f : Addr) (fd : FuncData) (o : Obj) (c : Addr) (oc : Obj) (vcs : List V) (bW : List Dv) (ps : List Str),
  ds = [eI s, .int (n : Nat), .bI f o c oc vcs bW, .int (most : Nat)] ∧ FnOk P w K mg base bt 6 f fd ps (C3 P w K tb f o c oc vcs (Ad bW step U n)) ∧ (∃ oc od fd sl, o = ⟨oc, od, .func fd, sl⟩) ∧ Binds K fd ps [] ∧ n ≤ 3 ∧ s ∈ U ∧ (∀ k ∈ U, ∀ a, a < n → step k a ∈ U) ∧ U.length ≤ 10000 ∧
  Q (xB (met step n most U.length s)) M
theorem ud {f : Addr} {fd : FuncData} {dv : List Value} (D : C2 K mg "first_met" gX ["start", "width", "step", "most"] dv f fd) (bl : Bl mg) {tk : Tok} (jq : mg "SIGNS" = some (.str "abc" tk)) :
    FnOk P w K mg base bt 7 f fd ["start", "width", "step", "most"] (bz P w K tb (vR P w K mg tb base)) := by
  refine JI D dJ (fun ds M Q E hS => by obtain ⟨s, step, U, n, most, f, fd, o, c, oc, vcs, bW, ps, e, _⟩ := hS; rw [e]; rfl) fun A outer s0 E Γ ds Q' E' hP hw hK ht hr hS => ?_
  obtain ⟨s, step, U, n, most, f, fd, o, c, oc, vcs, bW, ps, e, HZ, Ia, Ib, hn, hs, hU, hl, q⟩ := hS
  refine ⟨_, (ak (aN (i := 4) dJ.nd rfl (Or.inl rfl) (zG hr.units (qv 0) j5))
    (ak (aN (i := 5) dJ.nd rfl (Or.inl rfl) (mG (aa (qv 0) ah)))
    (ak (nM PassesOwn.never (QW.pt (oP (BJ (qv 5)) (mE (a9 wV (aH HK rfl bl.len_ PySem.boot_len (aa (qv 4) ah)) (qv 3) (bE _)))))
      (ak (aN (i := 6) dJ.nd rfl (Or.inl rfl) (oW (K := K) rfl PySem.F.plainAttrs_list PySem.F.slot_list_pop PySem.F.type_list_pop vA (qv 5) (aa aw ah)))
    (av (eO PassesOwn.never rfl (bN rfl bl.range_ (aa (qv 1) ah)) (fun nv eP ew eK et => by have hP := hP.trans eP.symm; have hw := hw.trans ew.symm; have hK := hK.trans eK.symm; have ht := ht.trans et.symm; exact ⟨(aR (i := 7) dJ.nd rfl (Or.inl rfl)), (ak (aN (i := 8) dJ.nd rfl (Or.inl rfl) (BR (i := 2) HZ Ia (hr.mono (by decide)) rfl (Or.inl rfl) Ib bu hP hw hK ht XR.none (aa (qv 6) (aa (qv 7) ah))))
    (av (cL (a9 (BM hr.units) (qv 8) (qv 4) (by rfl))
      (ak (Eo hr.units (qv 4) (qv 8) (aY lN (Ej hr.units (qv 4) (qv 6) (fun _ _ => rfl)) (bC (cH (K := K) rfl) (BH (z := "abc") rfl jq ⟨_, rfl⟩) (qv 7) (fun _ _ => rfl))))
    (av (j6 (oW (K := K) rfl PySem.F.plainAttrs_list PySem.F.slot_list_append PySem.F.type_list_append nR (qv 5) (aa (qv 8) ah)))))
      qss_nil)))⟩)))))
    (av (aX (qv 4)))))), ?_⟩
  subst e
  simp! only [ub]
  intro a ha
  refine ⟨by decide, fun qq hq => ?_⟩
  have Af : qq ≠ a := fun z => by rw [z, updM_same] at hq; cases hq
  have OW : Γ.M0 qq = none := by rw [aj Af] at hq; exact hq
  have big : (10000 : Nat) + 10 < sizeLine := by decide
  have K2 : ∀ {M : Mh}, (∀ b, b ≠ a → b ≠ qq → M b = Γ.M0 b) → Keeps Γ.M0 M := fun h b o e => by
    rw [h b (fun z => by rw [z, ha] at e; cases e) (fun z => by rw [z, OW] at e; cases e)]; exact e
  let I : Nat → List (List Int) × List Str → aA → Mh → Prop := fun i st ρ M => (∃ x6 x7 x8, ρ = [some (eI s), some (.int (n : Nat)), some (.bI f o c oc vcs bW), some (.int (most : Nat)), some (.ptr a), some (.ptr qq), x6, x7, x8]) ∧ M a = some (.dt (st.1.map kT) (st.2.map Dv.str)) ∧ M qq = some (.lst ((st.1.drop i).map eI)) ∧ (∀ b, b ≠ a → b ≠ qq → M b = Γ.M0 b) ∧ dY U st ∧ i ≤ st.1.length
  refine ⟨fun m ρ M => ∃ i st, m = U.length + 1 - i ∧ I i st ρ M ∧ gH step n most (U.length + 1 - i) i st = met step n most U.length s, ⟨_, 0, ([s], [""]), rfl, ⟨⟨_, _, _, rfl⟩, by rw [aj (Ne.symm Af), updM_same]; rfl, updM_same, fun b h1 h2 => by rw [aj h2, aj h1], lV hs, Nat.zero_le _⟩, rfl⟩, ?_⟩
  rintro m ρ M ⟨i, st, rfl, ⟨⟨x6, x7, x8, rfl⟩, Dj, OX, nj, ok, hi⟩, hb⟩
  have hle := ok.le
  have Dk := ok.len
  have fin : ∀ M', M' a = some (.dt (st.1.map kT) (st.2.map Dv.str)) → Keeps Γ.M0 M' → st = met step n most U.length s → jQ Γ.M0 Q' (.ptr a) M' := fun M' h k e => .inr ⟨k, xB st, .dt ha h rfl fun j d d' e1 e2 => by
    rw [e1] at e2; cases e2
    obtain ⟨w, _, rfl⟩ := List.mem_map.mp (List.mem_of_getElem? e1)
    exact .pin (.str w), by rw [e]; exact q⟩
  have Ag : U.length + 1 - i = (U.length - i) + 1 := by omega
  simp! only [Dj, OX]
  refine dB (fun h1 => ?_) (fun h1 => ?_)
  · have aU : i < st.1.length := by
      rcases Nat.lt_or_ge i st.1.length with h | h
      · exact h
      · rw [List.drop_eq_nil_of_le h] at h1; cases h1
    obtain ⟨k, hk⟩ : ∃ k, st.1[i]? = some k := ⟨_, List.getElem?_eq_getElem aU⟩
    obtain ⟨wd, nz⟩ : ∃ wd, st.2[i]? = some wd := ⟨_, List.getElem?_eq_getElem (by omega)⟩
    have pw : k ∈ U := ok.sub k (List.mem_of_getElem? hk)
    refine dB (fun h2 => ?_) (fun h2 => ?_)
    · have xC : st.1.length ≤ most := by simpa using h2
      have O7 : (st.1.drop i).length = st.1.length - i := List.length_drop
      have OY : seqIndex? 0 (st.1.drop i).length = some 0 := (by unfold seqIndex?; simp; omega)
      have e0 : ((st.1.drop i).map eI)[0]? = some (eI k) := by rw [kz hk]; rfl
      simp only [OY, e0]
      refine ⟨by decide, by decide, by omega, by omega, ?_⟩
      have er : ((st.1.drop i).map eI).eraseIdx 0 = (st.1.drop (i + 1)).map eI := by rw [kz hk]; rfl
      simp only [er]
      refine cV (fun j ρ M => (∃ x7 x8, ρ = [some (eI s), some (.int (n : Nat)), some (.bI f o c oc vcs bW), some (.int (most : Nat)), some (.ptr a), some (.ptr qq), some (eI k), x7, x8]) ∧ M a = some (.dt ((visit step k wd j st).1.map kT) ((visit step k wd j st).2.map Dv.str)) ∧ M qq = some (.lst (((visit step k wd j st).1.drop (i + 1)).map eI)) ∧ (∀ b, b ≠ a → b ≠ qq → M b = Γ.M0 b) ∧ j ≤ n)
        ⟨⟨_, _, rfl⟩, by rw [aj (Ne.symm Af)]; exact Dj, updM_same, fun b h1 h2 => by rw [aj h2]; exact nj b h1 h2, Nat.zero_le _⟩ (fun j d ρ M N hd ⟨⟨x7, x8, e1⟩, Ah, px, pz, gj⟩ hN => ?_) (fun ρ M ⟨⟨x7, x8, e1⟩, Ah, px, pz, gj⟩ => ?_)
      · subst e1
        obtain ⟨rfl, hj⟩ := dn hd
        obtain ⟨gk, gw, g1, g2⟩ := eX step k wd j st
        have rB := ok.visit (n := j) (step := step) (met := k) nz fun b hb => hU k pw b (by omega)
        have OZ := rB.le
        have qi := rB.len
        have K3 : (visit step k wd j st).1[i]? = some k := by rw [g1]; exact iQ hk
        have Ai : (visit step k wd j st).2[i]? = some wd := by rw [g2]; exact iQ nz
        have HI := vN rB.nd K3 Ai
        have yr := rB.wl i wd Ai
        have MD : i < (visit step k wd j st).1.length := (List.getElem?_eq_some_iff.mp K3).1
        simp! only []
        refine ⟨rfl, k, j, rfl, pw, hj, ?_⟩
        simp! only [eI, ub, Ah, t5 Ae, Option.isSome_map, zY qi]
        have nx : ∀ {bJ M'}, (∃ x7 x8, bJ = [some (eI s), some (.int (n : Nat)), some (.bI f o c oc vcs bW), some (.int (most : Nat)), some (.ptr a), some (.ptr qq), some (eI k), x7, x8]) → M' a = some (.dt ((visit step k wd (j + 1) st).1.map kT) ((visit step k wd (j + 1) st).2.map Dv.str)) → M' qq = some (.lst (((visit step k wd (j + 1) st).1.drop (i + 1)).map eI)) → (∀ b, b ≠ a → b ≠ qq → M' b = Γ.M0 b) → N bJ M' := fun h1 h2 h3 h4 => hN _ _ ⟨h1, h2, h3, h4, hj⟩
        have vs := gu step k wd j st
        refine dB (fun hm => ?_) (fun hm => ?_)
        · have hm : step k j ∉ (visit step k wd j st).1 := by simpa using hm
          have hv : visit step k wd (j + 1) st = ((visit step k wd j st).1 ++ [step k j], (visit step k wd j st).2 ++ [wd ++ nu j]) := by rw [vs]; unfold gr; rw [if_neg hm]
          obtain ⟨p1, p2⟩ := Et (κ := List Key) (k := kT (step k j)) (d := Dv.str (wd ++ nu j)) (ks := (visit step k wd j st).1.map kT) (ds := (visit step k wd j st).2.map Dv.str) (fun z => hm ((uR Ae).mp z))
          simp only [HI, Option.map_some, vO (show j < 3 by omega)]
          refine ⟨by decide, by rw [show (⟨#[97 + j]⟩ : Str) = nu j from rfl, qf]; omega, by omega, ?_⟩
          rw [show (⟨#[97 + j]⟩ : Str) = nu j from rfl, p1, p2]
          simp only [aj Af, px]
          refine ⟨trivial, by simp only [List.length_map, List.length_drop]; omega, nx ⟨_, _, rfl⟩ ?_ ?_ fun b h1 h2 => by rw [aj h2, aj h1]; exact pz b h1 h2⟩
          · rw [aj (Ne.symm Af), updM_same, hv, List.map_append, List.map_append]; rfl
          · rw [updM_same, hv]
            show some (Mo.lst (_ ++ [_])) = _
            rw [List.drop_append_of_le_length (by omega), List.map_append]; rfl
        · have hm : step k j ∈ (visit step k wd j st).1 := by simpa using hm
          have hv : visit step k wd (j + 1) st = visit step k wd j st := by rw [vs]; unfold gr; rw [if_pos hm]
          exact nx ⟨_, _, rfl⟩ (by rw [hv]; exact Ah) (by rw [hv]; exact px) pz
      · subst e1
        have Ic : (c7 0 n).length = n := rangeD_len 0 n
        rw [Ic] at Ah px gj
        have O0 := ok.visit (n := n) (step := step) (met := k) nz fun b hb => hU k pw b hb
        obtain ⟨gk, gw, g1, g2⟩ := eX step k wd n st
        refine ⟨U.length + 1 - (i + 1), by omega, i + 1, visit step k wd n st, rfl, ⟨⟨_, _, _, rfl⟩, Ah, px, pz, O0, by rw [g1, List.length_append]; omega⟩, ?_⟩
        rw [← hb, Ag, tZ hk nz xC]
        rw [show U.length + 1 - (i + 1) = U.length - i by omega]
    · refine fin M Dj (K2 nj) ?_
      have xC : ¬ st.1.length ≤ most := by simpa using h2
      rw [← hb, Ag]
      unfold gH
      simp only [hk, nz, if_neg xC]
  · refine fin M Dj (K2 nj) ?_
    have h : st.1.length ≤ i := by
      rcases Nat.lt_or_ge i st.1.length with h | h
      · rw [kz (List.getElem?_eq_getElem h)] at h1; cases h1
      · exact h
    rw [← hb, Ag]
    unfold gH
    have e1 : st.1[i]? = none := List.getElem?_eq_none h
    simp only [e1]
end
noncomputable def ue (st : Stmt) : Expr := match bB st with | [.Return (some (.Call _ (_ :: _ :: l :: _) _ _)) _] => l | _ => .Constant .none 0 ⟨0, 0, 0, 0⟩
noncomputable def lP (st : Stmt) : Arguments := match ue st with | .Lambda p _ _ _ => p | _ => ⟨[], [], none, [], [], none, []⟩
noncomputable def lB (st : Stmt) : Expr := match ue st with | .Lambda _ b _ _ => b | e => e
noncomputable def lS (st : Stmt) : Scope := match ue st with | .Lambda _ _ s _ => s | _ => ai st
noncomputable def fW (af : List (List Int)) : List Int := (List.range af.length).map fun i : Nat => (i : Int)
noncomputable def bA (af : List (List Int)) (p : Int) (a : Nat) : Int := (af.getD p.toNat []).getD a 0
theorem b9 {af : List (List Int)} {p : Int} : p ∈ fW af ↔ 0 ≤ p ∧ p < (af.length : Int) := by
  unfold fW
  rw [List.mem_map]
  constructor
  · rintro ⟨i, hi, rfl⟩
    have := List.mem_range.mp hi
    omega
  · rintro ⟨h1, h2⟩
    exact ⟨p.toNat, List.mem_range.mpr (by omega), by omega⟩
theorem getD_at {α : Type} {l : List α} {i : Nat} {d : α} (h : i < l.length) : l.getD i d = l[i] := by rw [List.getD_eq_getElem?_getD, List.getElem?_eq_getElem h]; rfl
theorem B9 {af : List (List Int)} {n : Nat} (o : dU af n) {p : Int} (hp : p ∈ fW af) {a : Nat} (ha : a < n) : bA af p a ∈ fW af := by
  obtain ⟨h1, h2⟩ := b9.mp hp
  have aU : p.toNat < af.length := by omega
  obtain ⟨e1, e2⟩ := o.row af[p.toNat] (List.getElem_mem aU)
  unfold bA
  rw [getD_at aU, getD_at (by omega)]
  exact b9.mpr (e2 _ (List.getElem_mem _))
theorem md {af : List (List Int)} {p : Int} (hp : p ∈ fW af) : cZ (af.map eI) p = some (eI (af.getD p.toNat [])) := by
  obtain ⟨h1, h2⟩ := b9.mp hp
  have aU : p.toNat < af.length := by omega
  have e : p = ((p.toNat : Nat) : Int) := by omega
  rw [e]
  refine dF ?_
  rw [List.getElem?_map, Int.toNat_natCast, List.getD_eq_getElem?_getD, List.getElem?_eq_getElem aU]
  rfl
theorem uf {af : List (List Int)} {n : Nat} (o : dU af n) {p : Int} (hp : p ∈ fW af) {a : Nat} (ha : a < n) : cZ ((af.getD p.toNat []).map Dv.int) ((a : Nat) : Int) = some (.int (bA af p a)) := by
  obtain ⟨h1, h2⟩ := b9.mp hp
  have aU : p.toNat < af.length := by omega
  have e1 := (o.row af[p.toNat] (List.getElem_mem aU)).1
  refine dF ?_
  unfold bA
  rw [List.getElem?_map, getD_at aU, getD_at (by omega), List.getElem?_eq_getElem (by omega)]
  rfl
noncomputable def eZ : List Int → List (List Int)
  | [] => [[]]
  | x :: xs => eZ xs ++ (eZ xs).map (x :: ·)
theorem rC : ∀ xs : List Int, (eZ xs).length = 2 ^ xs.length
  | [] => rfl
  | x :: xs => by rw [eZ, List.length_append, List.length_map, rC xs, List.length_cons, Nat.pow_succ]; omega
theorem me : ∀ xs : List Int, [] ∈ eZ xs
  | [] => List.mem_singleton.mpr rfl
  | x :: xs => List.mem_append_left _ (me xs)
theorem mh : ∀ {xs ns : List Int}, xs.Pairwise (· < ·) → ns.Pairwise (· < ·) → (∀ p ∈ ns, p ∈ xs) → ns ∈ eZ xs
  | [], ns, _, _, h => by
    cases ns with
    | nil => exact List.mem_singleton.mpr rfl
    | cons y ns => exact absurd (h y List.mem_cons_self) (by simp)
  | x :: xs, [], _, _, _ => me _
  | x :: xs, y :: ns, hx, hn, h => by
    obtain ⟨x1, x2⟩ := List.pairwise_cons.mp hx
    obtain ⟨n1, n2⟩ := List.pairwise_cons.mp hn
    have ge : ∀ p ∈ y :: ns, p ≠ x → p ∈ xs := fun p hp ne => by
      rcases List.mem_cons.mp (h p hp) with z | z
      · exact absurd z ne
      · exact z
    by_cases e : y = x
    · subst e
      refine List.mem_append_right _ (List.mem_map.mpr ⟨ns, mh x2 n2 fun p hp => ge p (List.mem_cons_of_mem _ hp) fun z => ?_, rfl⟩)
      have := n1 p hp
      omega
    · refine List.mem_append_left _ (mh x2 hn fun p hp => ge p hp fun z => ?_)
      have hy := x1 y (ge y List.mem_cons_self e)
      rcases List.mem_cons.mp hp with q | q
      · omega
      · have := n1 p q
        omega
noncomputable def cB (m : Nat) : List (List Int) := (eZ (fm m)).erase []
theorem rD {m : Nat} (h : m ≤ 9) : (cB m).length ≤ 511 := by
  unfold cB
  rw [List.length_erase_of_mem (me _), rC, xA]
  have : 2 ^ m ≤ 2 ^ 9 := Nat.pow_le_pow_right (by omega) h
  omega
theorem kP (m : Nat) : (fm m).Pairwise (· < ·) := by
  unfold fm
  exact List.pairwise_map.mpr (List.pairwise_lt_range.imp fun h => by omega)
theorem pA {m : Nat} {p : Int} : p ∈ fm m ↔ 0 ≤ p ∧ p < (m : Int) := by
  unfold fm
  rw [List.mem_map]
  constructor
  · rintro ⟨i, hi, rfl⟩
    have := List.mem_range.mp hi
    omega
  · rintro ⟨h1, h2⟩
    exact ⟨p.toNat, List.mem_range.mpr (by omega), by omega⟩
theorem jN {m : Nat} {ns : List Int} : ns ∈ cB m → dh m ns := fun h => by
  have nd : (eZ (fm m)).Nodup ∧ ∀ k ∈ eZ (fm m), k.Pairwise (· < ·) ∧ ∀ p ∈ k, p ∈ fm m := by
    have key : ∀ xs : List Int, xs.Pairwise (· < ·) → (eZ xs).Nodup ∧ ∀ k ∈ eZ xs, k.Pairwise (· < ·) ∧ ∀ p ∈ k, p ∈ xs := by
      intro xs
      induction xs with
      | nil => exact fun _ => ⟨by simp [eZ], fun k hk => by rw [List.mem_singleton.mp hk]; exact ⟨.nil, fun _ h => nomatch h⟩⟩
      | cons x xs ih =>
        intro h
        obtain ⟨x1, x2⟩ := List.pairwise_cons.mp h
        obtain ⟨i1, i2⟩ := ih x2
        refine ⟨?_, fun k hk => ?_⟩
        · rw [eZ, List.nodup_append]
          refine ⟨i1, List.pairwise_map.mpr (i1.imp fun h e => h (List.cons.inj e).2), fun a ha b hb e => ?_⟩
          obtain ⟨c, hc, rfl⟩ := List.mem_map.mp hb
          have := x1 x ((i2 a ha).2 x (by rw [e]; exact List.mem_cons_self))
          omega
        · rcases List.mem_append.mp hk with z | z
          · exact ⟨(i2 k z).1, fun p hp => List.mem_cons_of_mem _ ((i2 k z).2 p hp)⟩
          · obtain ⟨c, hc, rfl⟩ := List.mem_map.mp z
            refine ⟨List.pairwise_cons.mpr ⟨fun p hp => x1 p ((i2 c hc).2 p hp), (i2 c hc).1⟩, fun p hp => ?_⟩
            rcases List.mem_cons.mp hp with z | z
            · rw [z]; exact List.mem_cons_self
            · exact List.mem_cons_of_mem _ ((i2 c hc).2 p z)
    exact key _ (kP m)
  unfold cB at h
  have h' := (List.Nodup.mem_erase_iff nd.1).mp h
  exact ⟨(nd.2 ns h'.2).1, fun p hp => pA.mp ((nd.2 ns h'.2).2 p hp), h'.1⟩
theorem eS {m : Nat} {ns : List Int} (h : dh m ns) : ns ∈ cB m := (List.mem_erase_of_ne h.ne).mpr (mh (kP m) h.str fun p hp => pA.mpr (h.rng p hp))
noncomputable def bb (af : List (List Int)) (ps : List Int) (a : Nat) : List Int := kD (ps.map fun p => bA af p a)
theorem pB {af : List (List Int)} {n : Nat} (O : dU af n) {ps : List Int} (h : dh af.length ps) {a : Nat} (ha : a < n) : dh af.length (bb af ps a) := by
  refine ⟨gZ _, fun p hp => ?_, fun e => ?_⟩
  · obtain ⟨q, hq, rfl⟩ := List.mem_map.mp (jo.mp hp)
    exact b9.mp (B9 O (b9.mpr (h.rng q hq)) ha)
  · cases ps with
    | nil => exact h.ne rfl
    | cons p ps =>
      have : bA af p a ∈ bb af (p :: ps) a := jo.mpr (List.mem_map.mpr ⟨p, List.mem_cons_self, rfl⟩)
      rw [e] at this
      cases this
section
variable {P : Program} {w : World} {K : PySem.W.Frag} {mg : Str → Option Value} {base : Heap} {tb : cP}
theorem rM : aQ ["net", "places", "at"] ["net", "places", "at"] (ai dH) := ⟨rfl, rfl, rfl, by decide +kernel, rfl, by decide +kernel, by decide +kernel⟩
theorem rN : aQ ["net", "places"] ["net", "places"] (ai aB) := ⟨rfl, rfl, rfl, by decide +kernel, rfl, by decide +kernel, by decide +kernel⟩
noncomputable def qI : Str := ("images_met" ++ ".<locals>." : Str) ++ "<lambda>"
noncomputable def JR : cI := fun ds M Q _ => ∃ af n ps a, ds = [eN af, eI ps, .int ((a : Nat) : Int)] ∧ dU af n ∧ dh af.length ps ∧ a < n ∧ Q (eI (bb af ps a)) M
noncomputable def Dl (af : List (List Int)) (a : Nat) : Dv → Int | .int p => bA af p a | _ => 0
theorem Aj (af : List (List Int)) (a : Nat) (ps : List Int) : (ps.map Dv.int).map (Dl af a) = ps.map fun p => bA af p a := by rw [List.map_map]; rfl
theorem rO {f : Addr} {fd : FuncData} (D : Df K mg "sign_image" dH ["net", "places", "at"] f fd) (bl : Bl mg) : FnOk P w K mg base bt 1 f fd ["net", "places", "at"] (bz P w K tb JR) := by
  refine eQ D rM (fun ds M Q E hS => by obtain ⟨af, n, ps, a, e, _⟩ := hS; rw [e]; rfl) fun A outer s0 E Γ ds Q' E' hP hw hK ht hr hS => ?_
  obtain ⟨af, n, ps, a, e, O, hS, ha, q⟩ := hS
  refine ⟨_, (av (aX (ig (pW (K := K) rfl) rfl bl.tuple_ gK (aa (aH (tG hP hw (K := K) rfl rfl) rfl bl.sorted_ qQ (aa (wX hP hw (N' := ["place", "at", "net"]) (tn := 1) (idx := [2, 0]) rfl (show aF ["net", "places", "at"] (ai dH) _ ["place", "at", "net"] 1 [2, 0] from by decide +kernel) (lJ (K := K) rfl (qv 1)) (fun _ _ _ _ _ => (aR (i := 0) (show List.Nodup [("place" : Str), ("at" : Str), ("net" : Str)] from by decide +kernel) rfl (Or.inl rfl))) (fun _ _ _ _ _ => cW) (fun _ _ _ _ _ => (bC (cH (K := K) rfl) (bC (cH (K := K) rfl) (qv 2) (qv 0) (fun _ _ => rfl)) (qv 1) (fun _ _ => rfl)))) ah)) ah)))), ?_⟩
  subst e
  have h9 := O.nine
  have hl := hS.len
  simp! only []
  refine vB (Dl af a) (fun τ M => (∃ x, τ = [x, some (.int (a : Nat)), some (eN af)]) ∧ M = Γ.M0) ⟨⟨_, rfl⟩, rfl⟩ (Nat.lt_of_le_of_lt (show _ ≤ 21 by simp only [List.length_nil, List.length_map]; omega) (by decide)) (fun d hd τ M ⟨⟨x, e⟩, eM⟩ R hR => ?_) (fun τ M ⟨⟨x, e⟩, eM⟩ => ?_)
  · subst e eM
    obtain ⟨p, hp, rfl⟩ := List.mem_map.mp hd
    have bV := b9.mpr (hS.rng p hp)
    simp! only [md bV, uf O bV ha]
    exact hR _ _ ⟨⟨_, rfl⟩, rfl⟩
  · subst e eM
    rw [Aj]
    have := nI (ps.map fun p => bA af p a)
    rw [List.length_map] at this
    exact ⟨Nat.lt_of_le_of_lt (show (cR (ps.map fun p => bA af p a)).length ≤ 9 by omega) (by decide), .inl q⟩
theorem qj : ky ["met", "at"] ["net"] (lS aB) := ⟨rfl, rfl, rfl, by decide +kernel, by decide +kernel, by decide +kernel, by decide +kernel⟩
theorem xD {f c f1 : Addr} {fd bS : FuncData} {o oc : Obj} {aM : List (Str × Addr)} {vcs : List V} (L : xc (lP aB) (lB aB) (lS aB) qI o c oc aM fd) (C : qb base ["net"] aM vcs) (cT : vcs.length = 1) {af : List (List Int)} {n : Nat} (O : dU af n)
    (cJ : Df K mg "sign_image" dH ["net", "places", "at"] f1 bS) (bl : Bl mg) :
    FnOk P w K mg base bt 2 f fd ["met", "at"] (C3 P w K tb f o c oc vcs (Ad [eN af] (bb af) (cB af.length) n)) := by
  have ug := rO (P := P) (w := w) (base := base) (tb := tb) cJ bl
  refine Ml L qj C cT (fun bW ds M Q E hS => by obtain ⟨_, p, a, e, _⟩ := hS; rw [e]; rfl) fun A outer s E Γ bW ds Q' E' hP hw hK ht hr hS => ?_
  obtain ⟨e0, p, a, e, hp, ha, q⟩ := hS
  refine ⟨_, (aL ug (hr.mono (by decide)) rfl cJ.mg cJ.fn.kp cJ.bd bu hP hw hK ht XR.none (aa (qv 2) (aa (qv 0) (aa (qv 1) ah)))), ?_⟩
  subst e e0
  simp! only []
  exact ⟨af, n, p, a, rfl, O, jN hp, ha, .inl q⟩
theorem nY : ∀ n, (n, NameKind.free) ∈ (lS aB).names → (ai aB).names.lookup n = some .cell ∨ (ai aB).names.lookup n = some .free := by
  have h : ∀ y ∈ (lS aB).names, y.2 = NameKind.free → (ai aB).names.lookup y.1 = some .cell := by decide +kernel
  exact fun n hn => .inl (h _ hn rfl)
theorem qk : ∀ (j : Nat) (n : Str), (["net"] : List Str)[j]? = some n → (n, NameKind.free) ∈ (lS aB).names ∧ (ai aB).names.lookup n = some .cell ∧ ∃ i, ([0] : List Nat)[j]? = some i ∧ (["net", "places"] : List Str)[i]? = some n := fun j n h => by
  cases j with
  | zero => cases h; exact ⟨by decide +kernel, by decide +kernel, 0, rfl, rfl⟩
  | succ j => simp at h
noncomputable def kF (af : List (List Int)) (n : Nat) (s : List Int) : List (List Int) × List Str := met (bb af) n 511 (cB af.length).length s
noncomputable def Dm : cI := fun ds M Q _ => ∃ af n s, ds = [eN af, eI s] ∧ dU af n ∧ dh af.length s ∧ Q (xB (kF af n s)) M
theorem rP {f f1 : Addr} {fd bS : FuncData} {mi aI : Addr} {tk0 : Tok} (D : Df K mg "images_met" aB ["net", "places"] f fd) (gA : ve base fd mi aI) (eA : ∃ bm ob, BMod base mainGlobals mg bm ob)
    (qK : (aI, qI) ∈ tb.l) (HE : ∀ q ∈ tb.l, q.1 = aI → q.2 = qI) (ej : C2 K mg "first_met" gX ["start", "width", "step", "most"] [.int 511 tk0] f1 bS) {f2 : Addr} {fd2 : FuncData} (cJ : Df K mg "sign_image" dH ["net", "places", "at"] f2 fd2) (bl : Bl mg) {tk : Tok} (jq : mg "SIGNS" = some (.str "abc" tk)) :
    FnOk P w K mg base bt 8 f fd ["net", "places"] (bz P w K tb Dm) := by
  refine eQ D rN (fun ds M Q E hS => by obtain ⟨af, n, s, e, _⟩ := hS; rw [e]; rfl) fun A outer s0 E Γ ds Q' E' hP hw hK ht hr hS => ?_
  obtain ⟨af, n, s, e, O, hs, q⟩ := hS
  have gS : (aI, qI) ∈ Γ.tb.l := ht ▸ qK
  have gT : ∀ q ∈ Γ.tb.l, q.1 = aI → q.2 = qI := ht ▸ HE
  have uX : ∀ b', (∀ b o, base.get? b = some o → b'.get? b = some o) → FnOk P w K mg b' bt 7 f1 bS ["start", "width", "step", "most"] (bz P w K tb (vR P w K mg tb b')) := fun b' _ => ud ej bl jq
  have uh : Vals [V.int 511] [Value.int 511 tk0] := .cons ⟨_, rfl⟩ .nil
  have ui : ∀ (β : Bz) (M : Mh) (H : Hp), aD β M H [V.int 511] [Dv.int 511] := fun _ _ _ => .cons (.int _) .nil
  refine ⟨_, (av (aX (xf (idx := [0]) (fs := ["net"]) gA.code gA.hd eA rfl (nY) (qk) gS gT uX (hr.mono (by decide)) (fun _ => rfl) rfl ej.mg ej.kp ej.bd (uh) (ui) bu hP hw hK ht XR.none (qv 1) (aH (dX (K := K) rfl hK) rfl bl.len_ PySem.boot_len (aa (bC (cH (K := K) rfl) (qv 0) aw (fun _ _ => rfl)) ah)) ah))), ?_⟩
  subst e
  have h1 := O.one
  have h0 : (0 : Int) ∈ fW af := b9.mpr ⟨by omega, by omega⟩
  have z5 : (af.getD 0 []).length = n := by
    have := O.one
    rw [getD_at (by omega)]
    exact (O.row _ (List.getElem_mem _)).1
  have O1 := O.wid
  simp! only [tU, o6, md h0, Int.toNat_zero, z5]
  intro lf o c oc aM vcs lv hO b' hb hC
  obtain ⟨O2, nB, ⟨iA, rfl⟩, fu⟩ := hO
  have L : xc (lP aB) (lB aB) (lS aB) qI (PySem.W.kla_obj "<lambda>" qI (lP aB) (lB aB) (lS aB) aM ((mg "__name__").getD .none) c iA) c oc aM (PySem.W.kla_fn "<lambda>" qI (lP aB) (lB aB) (lS aB) aM ((mg "__name__").getD .none) (.ref c) iA) := ⟨nB, ⟨_, _, _, rfl, rfl⟩, fu⟩
  refine ⟨s, bb af, cB af.length, n, 511, lf, _, _, c, oc, vcs, [eN af], ["met", "at"], rfl, (xD L hC lv O cJ bl).mono (by decide), ⟨_, _, _, _, rfl⟩, .all fun us hl => ?_, by omega, eS hs, fun k hk a ha => eS (pB O (jN hk) ha), ?_, .inl q⟩
  · match us, hl with
    | [_, _], _ => rfl
  · have := rD O.nine
    omega
end
section
variable {P : Program} {w : World} {K : PySem.W.Frag} {mg : Str → Option Value} {base : Heap} {tb : cP} {cN ME EA C0 : Addr} {cs : List Addr}
noncomputable def Ie : cI := fun ds M Q _ => ∃ af d, ds = [eN af, d] ∧ l0 d = true ∧ Q (.bl (cq (af.length : Int) d)) M
theorem uY : aQ ["net", "thing"] ["net", "thing"] (ai iK) := ⟨rfl, rfl, rfl, by decide +kernel, rfl, by decide +kernel, by decide +kernel⟩
theorem Ak : aQ ["net", "thing"] ["net", "thing"] (ai jl) := ⟨rfl, rfl, rfl, by decide +kernel, rfl, by decide +kernel, by decide +kernel⟩
theorem uZ {f f1 f2 : Addr} {fd bS fd2 : FuncData} (D : Df K mg "is_place" iK ["net", "thing"] f fd) (aE : Df K mg "is_whole_below" bQ ["thing", "many"] f1 bS) (bj : Df K mg "is_whole" dq ["thing"] f2 fd2) (bl : Bl mg) : FnOk P w K mg base bt 3 f fd ["net", "thing"] (bz P w K tb Ie) := by
  have fI := iB (P := P) (w := w) (base := base) (tb := tb) aE bj bl
  refine eQ D uY (fun ds M Q E hS => by obtain ⟨af, d, e, _⟩ := hS; rw [e]; rfl) fun A outer s E Γ ds Q' E' hP hw hK ht hr hS => ?_
  obtain ⟨af, d, e, hk, q⟩ := hS
  refine ⟨_, (av (aX (aL fI (hr.mono (by decide)) rfl aE.mg aE.fn.kp aE.bd bu hP hw hK ht XR.none (aa (qv 1) (aa (aH (dX (K := K) rfl hK) rfl bl.len_ PySem.boot_len (aa (qv 0) ah)) ah))))), ?_⟩
  subst e
  simp! only []
  exact ⟨d, _, rfl, hk, .inl q⟩
theorem Al {m : Int} {d : Dv} (h : cq m d = true) : ∃ i, d = .int i ∧ 0 ≤ i ∧ i < m := by
  cases d with
  | int i => simp only [cq, Bool.and_eq_true, decide_eq_true_eq] at h; exact ⟨i, rfl, h.1, h.2⟩
  | _ => cases h
theorem rE {m : Int} : ∀ {ds : List Dv}, ds.all (cq m) = true → ∃ ns : List Int, ds = ns.map Dv.int ∧ ∀ p ∈ ns, 0 ≤ p ∧ p < m
  | [], _ => ⟨[], rfl, fun _ h => nomatch h⟩
  | d :: ds, h => by
    rw [List.all_cons, Bool.and_eq_true] at h
    obtain ⟨i, rfl, h0, h1⟩ := Al h.1
    obtain ⟨ns, rfl, hn⟩ := rE h.2
    exact ⟨i :: ns, rfl, fun p hp => by rcases List.mem_cons.mp hp with rfl | hp; exact ⟨h0, h1⟩; exact hn p hp⟩
noncomputable def xE (ds : List Dv) : Bool := match eW ds with | some ns => decide (ns = kD ns) | none => false
noncomputable def uj (m : Nat) : Dv → Bool | .tup ds => !decide (ds.length = 0) && ds.all (cq m) && xE ds | _ => false
noncomputable def Ig : Dv → Prop | .tup ds => (∀ d ∈ ds, l0 d = true) ∧ ds.length ≤ 20 | d => l0 d = true
theorem fV : ∀ ns : List Int, eW (ns.map Dv.int) = some ns
  | [] => rfl
  | n :: ns => by rw [List.map_cons, eW, fV ns]; rfl
noncomputable def Am : cI := fun ds M Q _ => ∃ af n d, ds = [eN af, d] ∧ dU af n ∧ Ig d ∧ Q (.bl (uj af.length d)) M
theorem An {f f1 f2 f3 : Addr} {fd bS fd2 t9 : FuncData} {uk bp : Addr} (D : Df K mg "is_set" jl ["net", "thing"] f fd) (kG : ve base fd uk bp) (hp : bp ∈ tb) (eA : ∃ bm ob, BMod base mainGlobals mg bm ob)
    (e8 : Df K mg "is_place" iK ["net", "thing"] f3 t9) (aE : Df K mg "is_whole_below" bQ ["thing", "many"] f1 bS) (bj : Df K mg "is_whole" dq ["thing"] f2 fd2) (bl : Bl mg) : FnOk P w K mg base bt 5 f fd ["net", "thing"] (bz P w K tb Am) := by
  have xF := uZ (P := P) (w := w) (base := base) (tb := tb) e8 aE bj bl
  refine eQ D Ak (fun ds M Q E hS => by obtain ⟨af, n, d, e, _⟩ := hS; rw [e]; rfl) fun A outer s E Γ ds Q' E' hP hw hK ht hr hS => ?_
  obtain ⟨af, n, d, e, o, hk, q⟩ := hS
  have xG : bp ∈ Γ.tb := ht ▸ hp
  refine ⟨_, (ak (cL (QW.pt (mF (ie (ib (aH (gM (K := K) rfl) rfl bl.isinstance_ dj (aa (qv 1) (aa (iO (v := .ty "tuple") rfl bl.tuple_ gK rfl) ah))))) (lF (a9 jc (aH (dX (K := K) rfl hK) rfl bl.len_ PySem.boot_len (aa (qv 1) ah)) aw (bE _)))))
      (av (aX iG))
      qss_nil)
    (av (aX (oR (tI (k := 3) (N' := ["place", "net"]) (tn := 1) (idx := [0]) xG (hr.mono (by decide)) rfl (show aF ["net", "thing"] (ai jl) _ ["place", "net"] 1 [0] from by decide +kernel) rfl rfl kG.code kG.hd eA rfl bl.all_ (lJ (K := K) rfl (qv 1)) (fun _ _ _ _ _ _ _ hr => (aR (i := 0) (show List.Nodup [("place" : Str), ("net" : Str)] from by decide +kernel) rfl (Or.inl rfl))) (fun _ _ _ _ _ _ _ hr => cW) (fun _ _ _ _ _ _ _ hr => (aL xF (hr.mono (by decide)) rfl e8.mg e8.fn.kp e8.bd bu hP hw hK ht XR.none (aa (qv 1) (aa (qv 0) ah))))) (oQ (vq (JD hr.units) (ig (Hc (K := K) rfl) rfl bl.list_ DQ (aa (qv 1) ah)) (aH (tG hP hw (K := K) rfl rfl) rfl bl.sorted_ qQ (aa (ig (JG hP hw (K := K) rfl rfl) rfl bl.set_ GJ (aa (qv 1) ah)) ah)) (bE _))))))), ?_⟩
  subst e
  cases d with
  | tup es =>
    obtain ⟨hk, hl⟩ := hk
    simp! only []
    refine ⟨by decide, dB (fun h => ?_) (fun h => ?_)⟩
    · simp only [uj, show decide (es.length = 0) = true by simp at h ⊢; omega, Bool.not_true, Bool.false_and] at q
      exact .inl q
    · simp only [uj, show decide (es.length = 0) = false by simp at h ⊢; omega, Bool.not_false, Bool.true_and] at q
      refine mM (cq (af.length : Int)) (fun τ => ∃ x, τ = [x, some (eN af)]) ⟨none, rfl⟩ (fun d hd τ ⟨x, e⟩ R hR => ?_) ?_
      · subst e
        exact ⟨af, d, rfl, hk d hd, hR _ ⟨_, rfl⟩⟩
      · cases hb : es.all (cq (af.length : Int)) with
        | false => rw [hb] at q; exact .inl q
        | true =>
          rw [hb] at q
          obtain ⟨ns, rfl, hn⟩ := rE hb
          rw [List.length_map] at hl
          simp! only [fV, Option.bind_some]
          have hd := (nI (ns := ns))
          refine ⟨Nat.lt_of_le_of_lt (show ns.length + 1 ≤ 21 by omega) (by decide), by omega, ?_⟩
          simp only [nN, now, bK, nU, Option.map_some, bR, ko, Bool.false_eq_true, if_false]
          refine ⟨by rw [fS]; have := vD ns; omega, ?_⟩
          simp only [xE, fV, Bool.true_and] at q
          exact .inl q
  | _ => first | exact ⟨by decide, .inl q⟩ | exact nomatch hk
theorem EB {m : Nat} {ns : List Int} (h : dh m ns) : uj m (eI ns) = true := by
  have hl := h.ne
  have h1 : ¬ ns.length = 0 := fun e => hl (List.eq_nil_of_length_eq_zero e)
  simp only [uj, List.length_map, h1, decide_false, Bool.not_false, Bool.true_and, Bool.and_eq_true, xE, fV, decide_eq_true_eq]
  refine ⟨List.all_eq_true.mpr fun d hd => ?_, (jM h.str).symm⟩
  obtain ⟨p, hp, rfl⟩ := List.mem_map.mp hd
  have := h.rng p hp
  simp only [cq, Bool.and_eq_true, decide_eq_true_eq]
  exact this
theorem EC {m : Nat} (hm : m ≤ 9) {ns : List Int} (h : dh m ns) : Ig (eI ns) := ⟨fun d hd => by obtain ⟨p, _, rfl⟩ := List.mem_map.mp hd; rfl, by rw [List.length_map]; have := h.len; omega⟩
end
section
variable {P : Program} {w : World} {K : PySem.W.Frag} {mg : Str → Option Value} {base : Heap} {tb : cP} {cN EA : Addr}
theorem iw : aQ ["net", "places", "met", "word"] ["net", "places"] (ai gy) := ⟨rfl, rfl, rfl, by decide +kernel, rfl, by decide +kernel, by decide +kernel⟩
noncomputable def pC : Option Str → Dv | some w => .str w | none => .ao
noncomputable def fL : List (List Int) → List Str → Option Str
  | k :: ks, w :: ws => if k.length = 1 then some w else fL ks ws
  | _, _ => none
noncomputable def iN (af : List (List Int)) (n : Nat) (ps : List Int) : Option Str := fL (kF af n ps).1 (kF af n ps).2
theorem ED {af : List (List Int)} {n : Nat} (O : dU af n) {s : List Int} (hs : dh af.length s) : dY (cB af.length) (kF af n s) := zX (fun k hk a ha => eS (pB O (jN hk) ha)) _ _ _ (lV (eS hs))
theorem MF (k : List Int) : (kT k).map jR = k.map Dv.int := by rw [kT, List.map_map]; rfl
theorem drop_cons {α : Type} {l : List α} {i : Nat} {x : α} (h : l[i]? = some x) : l.drop i = x :: l.drop (i + 1) := kz h
noncomputable def Ao : cI := fun ds M Q _ => ∃ af n s, ds = [eN af, eI s] ∧ dU af n ∧ dh af.length s ∧ Q (pC (iN af n s)) M
theorem pairs_at {ks : List (List Int)} {ws : List Str} {i : Nat} {d : Dv} (h : (c9 ((ks.map kT).map fun k => Dv.tup (k.map jR)) (ws.map Dv.str))[i]? = some d) : ∃ k w, d = .tup [eI k, .str w] ∧ ks[i]? = some k ∧ ws[i]? = some w := by
  obtain ⟨x, y, rfl, h1, h2⟩ := rg h
  rw [List.map_map] at h1
  obtain ⟨k, hk, rfl⟩ := oZ h1
  obtain ⟨w, hw, rfl⟩ := oZ h2
  exact ⟨k, w, by show Dv.tup [Dv.tup ((kT k).map jR), _] = _; rw [MF], hk, hw⟩
theorem rQ {f f1 : Addr} {fd bS : FuncData} (D : Df K mg "first_call" gy ["net", "places"] f fd)
    (da : Df K mg "images_met" aB ["net", "places"] f1 bS) (jr : FnOk P w K mg base bt 8 f1 bS ["net", "places"] (bz P w K tb Dm)) (bl : Bl mg) : FnOk P w K mg base bt 9 f fd ["net", "places"] (bz P w K tb Ao) := by
  refine eQ D iw (fun ds M Q E hS => by obtain ⟨af, n, s, e, _⟩ := hS; rw [e]; rfl) fun A outer s0 E Γ ds Q' E' hP hw hK ht hr hS => ?_
  obtain ⟨af, n, s, e, O, hs, q⟩ := hS
  refine ⟨_, (ak (eO PassesOwn.never rfl (B4 (aL jr (hr.mono (by decide)) rfl da.mg da.fn.kp da.bd bu hP hw hK ht XR.none (aa (qv 0) (aa (qv 1) ah)))) (fun nv eP ew eK et => by have hP := hP.trans eP.symm; have hw := hw.trans ew.symm; have hK := hK.trans eK.symm; have ht := ht.trans et.symm; exact ⟨(tu (n := 2) rfl (gL (aR (i := 2) iw.nd rfl (Or.inl rfl)) (gL (aR (i := 3) iw.nd rfl (Or.inl rfl)) pS))), (av (cL (a9 jc (aH (dX (K := K) rfl hK) rfl bl.len_ PySem.boot_len (aa (qv 2) ah)) aw (bE _))
      (av (aX (qv 3)))
      qss_nil))⟩))
    (av (aX lD))), ?_⟩
  subst e
  simp! only []
  refine ⟨af, n, s, rfl, O, hs, ?_⟩
  have ok := ED O hs
  have hlen := ok.len
  simp only [xB]
  refine cV (fun i ρ M => (∃ x2 x3, ρ = [some (eN af), some (eI s), x2, x3]) ∧ M = Γ.M0 ∧ fL ((kF af n s).1.drop i) ((kF af n s).2.drop i) = iN af n s) ⟨⟨_, _, rfl⟩, rfl, rfl⟩ (fun i d ρ M N hd ⟨⟨x2, x3, e1⟩, e2, h⟩ hN => ?_) (fun ρ M ⟨⟨x2, x3, e1⟩, e2, h⟩ => ?_)
  · subst e1 e2
    obtain ⟨k, wd, rfl, hk, nz⟩ := pairs_at hd
    rw [drop_cons hk, drop_cons nz, fL] at h
    simp! only []
    refine dB (fun h1 => ?_) (fun h1 => ?_)
    · rw [if_pos (by have := of_decide_eq_true h1; omega)] at h
      rw [← h] at q
      exact .inl q
    · rw [if_neg (by have := of_decide_eq_false h1; omega)] at h
      exact hN _ _ ⟨⟨_, _, rfl⟩, rfl, h⟩
  · subst e1 e2
    rw [pairsD_len, List.length_map, List.length_map, List.length_map, hlen, Nat.min_self] at h
    rw [List.drop_length, ← hlen, List.drop_length, fL] at h
    · rw [← h] at q
      exact .inl q
    · simp
end
section
variable {P : Program} {w : World} {K : PySem.W.Frag} {mg : Str → Option Value} {base : Heap} {tb : cP} {cN dZ C0 : Addr} {cs : List Addr}
theorem xH : aQ ["net", "thing"] ["net", "thing"] (ai jI) := ⟨rfl, rfl, rfl, by decide +kernel, rfl, by decide +kernel, by decide +kernel⟩
theorem um : aQ ["net", "thing"] ["net", "thing"] (ai gY) := ⟨rfl, rfl, rfl, by decide +kernel, rfl, by decide +kernel, by decide +kernel⟩
theorem xI : aQ ["net", "pair"] ["net", "pair"] (ai jJ) := ⟨rfl, rfl, rfl, by decide +kernel, rfl, by decide +kernel, by decide +kernel⟩
noncomputable def Dn : cI := fun ds M Q _ => ∃ af n s, ds = [eN af, eI s] ∧ dU af n ∧ dh af.length s ∧ s.length = 2 ∧ Q (.bl true) M
theorem xJ {f f1 : Addr} {fd bS : FuncData} (D : Df K mg "is_pair" jI ["net", "thing"] f fd) (fM : Df K mg "is_set" jl ["net", "thing"] f1 bS) (nZ : FnOk P w K mg base bt 5 f1 bS ["net", "thing"] (bz P w K tb Am)) (bl : Bl mg) : FnOk P w K mg base bt 6 f fd ["net", "thing"] (bz P w K tb Dn) := by
  refine eQ D xH (fun ds M Q E hS => by obtain ⟨af, n, s, e, _⟩ := hS; rw [e]; rfl) fun A outer s0 E Γ ds Q' E' hP hw hK ht hr hS => ?_
  obtain ⟨af, n, s, e, O, hs, h2, q⟩ := hS
  refine ⟨_, (av (aX (oR (aL nZ (hr.mono (by decide)) rfl fM.mg fM.fn.kp fM.bd bu hP hw hK ht XR.none (aa (qv 0) (aa (qv 1) ah))) (oQ (vq jc (aH (dX (K := K) rfl hK) rfl bl.len_ PySem.boot_len (aa (qv 1) ah)) aw (bE _)))))), ?_⟩
  subst e
  refine ⟨af, n, _, rfl, O, EC O.nine hs, ?_⟩
  rw [EB hs]
  simp! only [h2]
  exact .inl q
noncomputable def rF : cI := fun ds M Q _ => ∃ af n s, ds = [eN af, eI s] ∧ dU af n ∧ dh af.length s ∧ s.length = 2 ∧ Q .ao M
theorem uo {f f1 : Addr} {fd bS : FuncData} (D : Df K mg "need_pair" gY ["net", "thing"] f fd) (fX : Df K mg "is_pair" jI ["net", "thing"] f1 bS) (mj : FnOk P w K mg base bt 6 f1 bS ["net", "thing"] (bz P w K tb Dn))
    (X_ : Bv K C0 cs) (n5 : dZ ∈ cs) (n6 : mg "NoPair" = some (.ref dZ)) : FnOk P w K mg base (gG P w) 7 f fd ["net", "thing"] (bz P w K tb rF) := by
  refine wW D um (fun ds M Q E hS => by obtain ⟨af, n, s, e, _⟩ := hS; rw [e]; rfl) fun A outer s0 E Γ ds Q' E' hP hw hK ht hE hr hS => ?_
  obtain ⟨af, n, s, e, O, hs, h2, q⟩ := hS
  refine ⟨_, (av (cL (ie (ib (aL mj (hr.mono (by decide)) rfl fX.mg fX.fn.kp fX.bd bu hP hw hK ht XR.none (aa (qv 0) (aa (qv 1) ah)))))
      (av (tH (X_.ex _ n5) PySem.F.excBase_ValueError rfl yZ hE rfl n6 (aa j5 ah)))
      qss_nil)), ?_⟩
  subst e
  simp! only []
  exact ⟨af, n, s, rfl, O, hs, h2, .inl q⟩
noncomputable def pD : cI := fun ds M Q _ => ∃ af n s, ds = [eN af, eI s] ∧ dU af n ∧ dh af.length s ∧ s.length = 2 ∧ Q (pC (iN af n s)) M
theorem xK {f f1 f2 f3 : Addr} {fd bS fd2 t9 : FuncData} (D : Df K mg "call_of" jJ ["net", "pair"] f fd)
    (fb : Df K mg "need_net" iJ ["thing"] f1 bS) (kH : FnOk P w K mg base (gG P w) 7 f1 bS ["thing"] (bz P w K tb (Di cN)))
    (eu : Df K mg "need_pair" gY ["net", "thing"] f2 fd2) (jS : FnOk P w K mg base (gG P w) 7 f2 fd2 ["net", "thing"] (bz P w K tb rF))
    (dM : Df K mg "first_call" gy ["net", "places"] f3 t9) (js : FnOk P w K mg base bt 9 f3 t9 ["net", "places"] (bz P w K tb Ao)) :
    FnOk P w K mg base (gG P w) 10 f fd ["net", "pair"] (bz P w K tb pD) := by
  refine wW D xI (fun ds M Q E hS => by obtain ⟨af, n, s, e, _⟩ := hS; rw [e]; rfl) fun A outer s0 E Γ ds Q' E' hP hw hK ht hE hr hS => ?_
  obtain ⟨af, n, s, e, O, hs, h2, q⟩ := hS
  refine ⟨_, (ak (j6 (aL kH (hr.mono (by decide)) rfl fb.mg fb.fn.kp fb.bd CK hP hw hK ht hE (aa (qv 0) ah)))
    (ak (j6 (aL jS (hr.mono (by decide)) rfl eu.mg eu.fn.kp eu.bd CK hP hw hK ht hE (aa (qv 0) (aa (qv 1) ah))))
    (av (aX (aL js (hr.mono (by decide)) rfl dM.mg dM.fn.kp dM.bd bu hP hw hK ht XR.none (aa (qv 0) (aa (qv 1) ah))))))), ?_⟩
  subst e
  refine ⟨_, rfl, Ez af, fun _ => ?_, fun h => by rw [Ew O] at h; cases h⟩
  simp! only []
  exact ⟨af, n, _, rfl, O, hs, h2, af, n, s, rfl, O, hs, .inl q⟩
theorem pE {κ : Type} [DecidableEq κ] (step : κ → Nat → κ) (k : κ) (w : Str) (st : List κ × List Str) {m : Nat} : ∀ {n : Nat}, m ≤ n → ∃ ks ws, (visit step k w n st).1 = (visit step k w m st).1 ++ ks ∧ (visit step k w n st).2 = (visit step k w m st).2 ++ ws
  | 0, h => by have : m = 0 := by omega
               subst this; exact ⟨[], [], by simp, by simp⟩
  | n + 1, h => by
    by_cases e : m = n + 1
    · subst e; exact ⟨[], [], by simp, by simp⟩
    · obtain ⟨ks, ws, h1, h2⟩ := pE step k w st (m := m) (n := n) (by omega)
      rw [gu]
      obtain ⟨rl, tY, h3, h4⟩ := rp step k w (visit step k w n st) n
      exact ⟨ks ++ rl, ws ++ tY, by rw [h3, h1, List.append_assoc], by rw [h4, h2, List.append_assoc]⟩
theorem uq {κ : Type} [DecidableEq κ] (step : κ → Nat → κ) (n most : Nat) : ∀ (fuel i : Nat) (st : List κ × List Str), ∃ ks ws, (gH step n most fuel i st).1 = st.1 ++ ks ∧ (gH step n most fuel i st).2 = st.2 ++ ws
  | 0, i, st => ⟨[], [], by simp [gH], by simp [gH]⟩
  | fuel + 1, i, st => by
    unfold gH
    split
    · split
      · rename_i k w h1 h2 _
        obtain ⟨ks, ws, e1, e2⟩ := eX step k w n st
        obtain ⟨rl, tY, e3, e4⟩ := uq step n most fuel (i + 1) (visit step k w n st)
        exact ⟨ks ++ rl, ws ++ tY, by rw [e3, e1, List.append_assoc], by rw [e4, e2, List.append_assoc]⟩
      · exact ⟨[], [], by simp, by simp⟩
    · exact ⟨[], [], by simp, by simp⟩
theorem mn {g : List Int} {w : Str} {rl : List (List Int)} {tY : List Str} (hg : g.length = 1) : ∀ {ks : List (List Int)} {ws : List Str}, ks.length = ws.length → (∀ k ∈ ks, k.length = 2) → fL ((ks ++ [g]) ++ rl) ((ws ++ [w]) ++ tY) = some w
  | [], [], _, _ => by show (if g.length = 1 then _ else _) = _; rw [if_pos hg]
  | [], _ :: _, h, _ => by cases h
  | _ :: _, [], h, _ => by cases h
  | k :: ks, v :: ws, h, h2 => by
    show (if k.length = 1 then _ else _) = _
    rw [if_neg (by have := h2 k List.mem_cons_self; omega)]
    exact mn hg (by simpa using h) fun x hx => h2 x (List.mem_cons_of_mem _ hx)
theorem kQ : ∀ {ks : List (List Int)} {ws : List Str}, (∀ k ∈ ks, k.length = 2) → fL ks ws = none
  | [], ws, _ => by cases ws <;> rfl
  | _ :: _, [], _ => rfl
  | k :: ks, v :: ws, h2 => by
    show (if k.length = 1 then _ else _) = _
    rw [if_neg (by have := h2 k List.mem_cons_self; omega)]
    exact kQ fun x hx => h2 x (List.mem_cons_of_mem _ hx)
theorem Ca (x y : Int) : kD [x, y] = if x = y then [x] else [if y < x then y else x, if y > x then y else x] := by
  by_cases e : x = y
  · subst e
    rw [if_pos rfl, pj (b := [x]) (fun k => by simp), jM (by simp)]
  · rw [if_neg e]
    by_cases h : y < x
    · rw [if_pos h, if_neg (by omega), pj (b := [y, x]) (fun k => by simp [or_comm]), jM (by simp [h])]
    · rw [if_neg h, if_pos (by omega), jM (by simp; omega)]
end
section
variable {P : Program} {w : World} {K : PySem.W.Frag} {mg : Str → Option Value} {base : Heap} {tb : cP}
theorem aO : aQ ["_law_net_here", "_law_pair", "_law_level", "_law_seen", "_law_ahead", "_law_here", "_law_word", "_law_k", "_law_one", "_law_other", "_law_there"] ["_law_net_here", "_law_pair"] (ai dD) := ⟨rfl, rfl, rfl, by decide +kernel, rfl, by decide +kernel, by decide +kernel⟩
theorem fx : aQ ["_law_net_here", "_law_pair", "_law_due", "_law_turn", "_law_found"] ["_law_net_here", "_law_pair"] (ai gz) := ⟨rfl, rfl, rfl, by decide +kernel, rfl, by decide +kernel, by decide +kernel⟩
theorem mq : aQ ["_law_script", "_law_k", "_law_net_here", "_law_other", "_law_one"] ["_law_script"] (ai xn) := ⟨rfl, rfl, rfl, by decide +kernel, rfl, by decide +kernel, by decide +kernel⟩
noncomputable def fN (r : List (List Int) × List Str) : List Dv := (r.1.zip r.2).map fun p => .tup [eI p.1, .str p.2]
theorem jt {r : List (List Int) × List Str} (h : r.1.length = r.2.length) : (fN r).length = r.1.length := by simp [fN, h]
theorem EE {r : List (List Int) × List Str} {i : Nat} {k : List Int} {w : Str} (h1 : r.1[i]? = some k) (h2 : r.2[i]? = some w) : (fN r)[i]? = some (.tup [eI k, .str w]) := by
  rw [fN, List.getElem?_map, show (r.1.zip r.2)[i]? = some (k, w) from List.getElem?_zip_eq_some.mpr ⟨h1, h2⟩]; rfl
theorem Cb {r : List (List Int) × List Str} (h : r.1.length = r.2.length) (k : List Int) (w : Str) : fN (r.1 ++ [k], r.2 ++ [w]) = fN r ++ [.tup [eI k, .str w]] := by
  rw [fN, fN, List.zip_append h, List.map_append]; rfl
theorem ur {M : Mh} {r : List (List Int) × List Str} : ∀ d ∈ fN r, Pin M d := fun d hd => by
  obtain ⟨p, _, rfl⟩ := List.mem_map.mp hd
  exact .tup fun x hx => by
    simp at hx
    rcases hx with rfl | rfl
    · exact lO _
    · exact .str _
theorem uv {d : Dv} {t : Dt} {M : Mh} {Q : ZK} (h : bK (now M d) = some t) (hp : fS t ≤ 60) (q : Q (.bl false) M) : nN true d d M Q := by
  unfold nN
  rw [h]
  refine ⟨hp, ?_⟩
  rw [kg]
  exact q
theorem bg.eI (ns : List Int) : bg (some (eI ns)) := fun _ _ h => by cases h; exact lO ns
theorem bg.str (z : Str) : bg (some (.str z)) := fun _ _ h => by cases h; exact .str z
theorem Ih {m : Nat} {k : List Int} (h : dh m k) (h2 : k.length = 2) : ∃ p q, k = [p, q] := by
  match k, h2 with
  | [p, q], _ => exact ⟨p, q, rfl⟩
theorem Cd (ks : List (List Int)) : fw (ks.map eI) = some (ks.map fun k => Dt.tup (k.map Dt.int)) := vC CV ks
theorem uw (x : List Int) : ∀ ks : List (List Int), ((ks.map fun k => Dt.tup (k.map Dt.int)).any fun t => bR t (.tup (x.map Dt.int))) = decide (x ∈ ks)
  | [] => rfl
  | k :: ks => by
    rw [List.map_cons, List.any_cons, uw x ks]
    have : bR (.tup (k.map Dt.int)) (.tup (x.map Dt.int)) = decide (k = x) := by rw [bR, ko]
    rw [this]
    by_cases e : k = x
    · subst e; simp
    · have e' : ¬ x = k := fun z => e z.symm
      simp [e, e']
theorem Ce {neg : Bool} {M : Mh} {c : Addr} {ks : List (List Int)} {g : List Int} {Q : ZK} (hc : M c = some (.lst (ks.map eI))) (q : Q (.bl (if neg then !decide (g ∈ ks) else decide (g ∈ ks))) M) : tM neg (eI g) (.ptr c) M Q := by
  unfold tM
  have e1 : now M (eI g) = eI g := rfl
  have e2 : now M (.ptr c) = .lst (ks.map eI) := by simp only [now, hc]
  rw [e1, e2, CV]
  simp only [Cd, uw]
  refine ⟨fun t ht => ?_, q⟩
  obtain ⟨k, _, rfl⟩ := List.mem_map.mp ht
  rw [fS]
  have := vD k
  omega
theorem mR {f : Addr} {fd : FuncData} (D : Df K mg "_law_first_call" dD ["_law_net_here", "_law_pair"] f fd) (bl : Bl mg) : FnOk P w K mg base bt 1 f fd ["_law_net_here", "_law_pair"] (bz P w K tb pD) := by
  refine eQ D aO (fun ds M Q E hS => by obtain ⟨af, n, s, e, _⟩ := hS; rw [e]; rfl) fun A outer s0 E Γ ds Q' E' hP hw hK ht hr hS => ?_
  obtain ⟨af, n, s, e, O, hs, h2, q⟩ := hS
  have hM : Γ.M0 = Γ.M0 := rfl
  refine ⟨_, (ak (aN (i := 2) aO.nd rfl (Or.inl rfl) (tq (aa (lH (aa (qv 1) (aa j5 ah))) ah)))
    (ak (aN (i := 3) aO.nd rfl (Or.inl rfl) (mG (aa (qv 1) ah)))
    (ak (nM PassesOwn.never (a9 Ha (aH (dX (K := K) rfl hK) rfl bl.len_ PySem.boot_len (aa (qv 2) ah)) aw (bE _))
      (ak (aN (i := 4) aO.nd rfl (Or.inl rfl) (mG ah))
    (ak (eO PassesOwn.never rfl (pT (K := K) rfl (qv 2)) (fun nv eP ew eK et => by have hP := hP.trans eP.symm; have hw := hw.trans ew.symm; have hK := hK.trans eK.symm; have ht := ht.trans et.symm; exact ⟨(tu (n := 2) rfl (gL (aR (i := 5) aO.nd rfl (Or.inl rfl)) (gL (aR (i := 6) aO.nd rfl (Or.inl rfl)) pS))), (av (eO PassesOwn.never rfl (bN rfl bl.range_ (aa (aH (dX (K := K) rfl hK) rfl bl.len_ PySem.boot_len (aa (bC (cH (K := K) rfl) (qv 0) aw (fun _ _ => rfl)) ah)) ah)) (fun nv eP ew eK et => by have hP := hP.trans eP.symm; have hw := hw.trans ew.symm; have hK := hK.trans eK.symm; have ht := ht.trans et.symm; exact ⟨(aR (i := 7) aO.nd rfl (Or.inl rfl)), (ak (aN (i := 8) aO.nd rfl (Or.inl rfl) (bC (cH (K := K) rfl) (bC (cH (K := K) rfl) (qv 0) (bC (cH (K := K) rfl) (qv 5) aw (fun _ _ => rfl)) (fun _ _ => rfl)) (qv 7) (fun _ _ => rfl)))
    (ak (aN (i := 9) aO.nd rfl (Or.inl rfl) (bC (cH (K := K) rfl) (bC (cH (K := K) rfl) (qv 0) (bC (cH (K := K) rfl) (qv 5) aw (fun _ _ => rfl)) (fun _ _ => rfl)) (qv 7) (fun _ _ => rfl)))
    (ak (aN (i := 10) aO.nd rfl (Or.inl rfl) (lH (aa (aH (tE rfl) rfl bl.min_ sG (aa (qv 8) (aa (qv 9) ah))) (aa (aH (zx rfl) rfl bl.max_ yG (aa (qv 8) (aa (qv 9) ah))) ah))))
    (ak (cL (a9 jc (qv 8) (qv 9) (bE _))
      (av (aX (aY lN (qv 6) (bC (cH (K := K) rfl) j5 (qv 7) (fun _ _ => rfl)))))
      qss_nil)
    (av (cL (a9 (BL hr.units) (qv 10) (qv 3) (by rfl))
      (ak (j6 (oW (K := K) rfl PySem.F.plainAttrs_list PySem.F.slot_list_append PySem.F.type_list_append nR (qv 3) (aa (qv 10) ah)))
    (av (j6 (oW (K := K) rfl PySem.F.plainAttrs_list PySem.F.slot_list_append PySem.F.type_list_append nR (qv 4) (aa (lH (aa (qv 10) (aa (aY lN (qv 6) (bC (cH (K := K) rfl) j5 (qv 7) (fun _ _ => rfl))) ah))) ah)))))
      qss_nil))))))⟩)))⟩))
    (av (zD 4 hM (aN (i := 2) aO.nd rfl (Or.inl rfl) (qv 4)))))))
    (av (aX lD))))), ?_⟩
  subst e
  simp! only []
  refine ⟨by decide, by decide, by decide, fun c hc => ?_⟩
  have big : (10000 : Nat) + 10 < sizeLine := by decide
  have hU := rD O.nine
  have h1 := O.one
  have h0 : (0 : Int) ∈ fW af := b9.mpr ⟨by omega, by omega⟩
  have z5 : (af.getD 0 []).length = n := by
    rw [getD_at (by omega)]
    exact (O.row _ (List.getElem_mem _)).1
  have O1 := O.wid
  refine ⟨fun m ρ M => ∃ i st, m = (cB af.length).length + 1 - i ∧ (∃ x4 x5 x6 x7 x8 x9 d9, (bg x5 ∧ bg x6 ∧ bg x7 ∧ bg x8 ∧ bg x9 ∧ bg d9) ∧ ρ = [some (eN af), some (eI s), some (.lst ((fN st).drop i)), some (.ptr c), x4, x5, x6, x7, x8, x9, d9]) ∧ M c = some (.lst (st.1.map eI)) ∧ (∀ b, b ≠ c → M b = Γ.M0 b) ∧ dY (cB af.length) st ∧ (∀ k ∈ st.1, k.length = 2) ∧ i ≤ st.1.length ∧ gH (bb af) n 511 ((cB af.length).length + 1 - i) i st = kF af n s,
    ⟨_, 0, ([s], [""]), rfl, ⟨_, _, _, _, _, _, _, ⟨.none, .none, .none, .none, .none, .none⟩, rfl⟩, updM_same, fun b h1 => aj h1, lV (eS hs), fun k hk => by rw [List.mem_singleton.mp hk]; exact h2, Nat.zero_le _, rfl⟩, ?_⟩
  rintro m ρ M ⟨i, st, rfl, ⟨x4, x5, x6, x7, x8, x9, d9, ⟨p5, p6, p7, p8, p9, jK⟩, rfl⟩, K4, nj, ok, y9, hi, hb⟩
  have hle := ok.le
  have Dk := ok.len
  have Ag : (cB af.length).length + 1 - i = ((cB af.length).length - i) + 1 := by omega
  have K5 : ((fN st).drop i).length = st.1.length - i := by rw [List.length_drop, jt Dk]
  simp! only [K5]
  refine dB (fun h1 => ⟨Nat.zero_le _, fun lq Ii => ?_⟩) (fun h1 => ?_)
  · have aU : i < st.1.length := by have := of_decide_eq_true h1; omega
    have ux : lq ≠ c := fun z => by rw [z, K4] at Ii; cases Ii
    have Cg : Γ.M0 lq = none := by rw [← nj lq ux]; exact Ii
    refine cV (fun t ρ M => ∃ cz, (∃ x5 x6 x7 x8 x9 d9, (bg x5 ∧ bg x6 ∧ bg x7 ∧ bg x8 ∧ bg x9 ∧ bg d9) ∧ ρ = [some (eN af), some (eI s), some (.lst ((fN st).drop i)), some (.ptr c), some (.ptr lq), x5, x6, x7, x8, x9, d9]) ∧ M c = some (.lst (cz.1.map eI)) ∧ M lq = some (.lst ((fN cz).drop st.1.length)) ∧ (∀ b, b ≠ c → b ≠ lq → M b = Γ.M0 b) ∧ dY (cB af.length) cz ∧ (∀ k ∈ cz.1, k.length = 2) ∧ (∃ ks ws, cz.1 = st.1 ++ ks ∧ cz.2 = st.2 ++ ws) ∧ gH (bb af) n 511 ((cB af.length).length + 1 - (i + t)) (i + t) cz = kF af n s)
      ⟨st, ⟨_, _, _, _, _, _, ⟨p5, p6, p7, p8, p9, jK⟩, rfl⟩, by rw [aj (Ne.symm ux)]; exact K4, by rw [updM_same, ← jt Dk, List.drop_length], fun b h1 h2 => by rw [aj h2]; exact nj b h1, ok, y9, ⟨[], [], by simp, by simp⟩, hb⟩ (fun t d ρ M N hd hJ hN => ?_) (fun ρ M hJ => ?_)
    · obtain ⟨cz, ⟨x5, x6, x7, x8, x9, d9, ⟨p5, p6, p7, p8, p9, jK⟩, rfl⟩, Ap, px, pz, uy, Ij, ⟨gk, gw, g1, g2⟩, gb⟩ := hJ
      rw [List.getElem?_drop] at hd
      have hit : i + t < st.1.length := by have := (List.getElem?_eq_some_iff.mp hd).1; rw [jt Dk] at this; exact this
      obtain ⟨k, hk⟩ : ∃ k, st.1[i + t]? = some k := ⟨_, List.getElem?_eq_getElem hit⟩
      obtain ⟨wd, nz⟩ : ∃ wd, st.2[i + t]? = some wd := ⟨_, List.getElem?_eq_getElem (by omega)⟩
      rw [EE hk nz] at hd
      cases hd
      have pw : dh af.length k := jN (ok.sub k (List.mem_of_getElem? hk))
      obtain ⟨p, p', rfl⟩ := Ih pw (y9 _ (List.mem_of_getElem? hk))
      have K6 : cz.1[i + t]? = some [p, p'] := by rw [g1]; exact iQ hk
      have Aq : cz.2[i + t]? = some wd := by rw [g2]; exact iQ nz
      have bV := b9.mpr (pw.rng p (by simp))
      have Ik := b9.mpr (pw.rng p' (by simp))
      simp! only [md h0, Int.toNat_zero, z5]
      refine ⟨by omega, by omega, ?_⟩
      refine cV (fun j ρ M => (∃ x7 x8 x9 d9, (bg x7 ∧ bg x8 ∧ bg x9 ∧ bg d9) ∧ ρ = [some (eN af), some (eI s), some (.lst ((fN st).drop i)), some (.ptr c), some (.ptr lq), some (eI [p, p']), some (.str wd), x7, x8, x9, d9]) ∧ M c = some (.lst ((visit (bb af) [p, p'] wd j cz).1.map eI)) ∧ M lq = some (.lst ((fN (visit (bb af) [p, p'] wd j cz)).drop st.1.length)) ∧ (∀ b, b ≠ c → b ≠ lq → M b = Γ.M0 b) ∧ (∀ k ∈ (visit (bb af) [p, p'] wd j cz).1, k.length = 2) ∧ j ≤ n)
        ⟨⟨_, _, _, _, ⟨p7, p8, p9, jK⟩, rfl⟩, Ap, px, pz, Ij, Nat.zero_le _⟩ (fun j d ρ M N' hd hJ Dp => ?_) (fun ρ M hJ => ?_)
      · obtain ⟨⟨x7, x8, x9, d9, ⟨p7, p8, p9, jK⟩, rfl⟩, vS, Ar, As, uz, fj⟩ := hJ
        obtain ⟨rfl, hj⟩ := dn hd
        simp! only [show cZ [Dv.int p, Dv.int p'] 1 = some (.int p') from dF (j := 1) rfl, md bV, md Ik, uf O bV hj, uf O Ik hj]
        have eg : bb af [p, p'] j = if bA af p j = bA af p' j then [bA af p j] else [if bA af p' j < bA af p j then bA af p' j else bA af p j, if bA af p' j > bA af p j then bA af p' j else bA af p j] := Ca _ _
        have rB := uy.visit (n := j) (step := bb af) (met := [p, p']) Aq fun b hb => eS (pB O pw (by omega))
        have OZ := rB.le
        have qi := rB.len
        obtain ⟨vk, vw, v1, v2⟩ := eX (bb af) [p, p'] wd j cz
        have Ai : (visit (bb af) [p, p'] wd j cz).2[i + t]? = some wd := by rw [v2]; exact iQ Aq
        have yr := rB.wl _ wd Ai
        have MD : i + t < (visit (bb af) [p, p'] wd j cz).2.length := (List.getElem?_eq_some_iff.mp Ai).1
        have Ci : st.1.length ≤ (visit (bb af) [p, p'] wd j cz).1.length := by rw [v1, g1, List.length_append, List.length_append]; omega
        have vs := gu (bb af) [p, p'] wd j cz
        have e1 : (⟨#[97 + j]⟩ : Str) = nu j := rfl
        simp only [vO (show j < 3 by omega), e1, qf]
        refine ⟨by decide, dB (fun h => ⟨by decide, by omega, ?_⟩) (fun h => ?_)⟩
        · have h := of_decide_eq_true h
          rw [if_pos h] at eg
          have hm : bb af [p, p'] j ∉ (visit (bb af) [p, p'] wd j cz).1 := fun z => by have := uz _ z; rw [eg] at this; cases this
          have hv : visit (bb af) [p, p'] wd (j + 1) cz = ((visit (bb af) [p, p'] wd j cz).1 ++ [bb af [p, p'] j], (visit (bb af) [p, p'] wd j cz).2 ++ [wd ++ nu j]) := by rw [vs]; unfold gr; rw [if_neg hm]
          have xM : iN af n s = some (wd ++ nu j) := by
            unfold iN
            rw [← gb, show (cB af.length).length + 1 - (i + t) = ((cB af.length).length - (i + t)) + 1 by omega, tZ K6 Aq (by have := uy.le; omega)]
            obtain ⟨b1, b2, c1, c2⟩ := uq (bb af) n 511 ((cB af.length).length - (i + t)) (i + t + 1) (visit (bb af) [p, p'] wd n cz)
            obtain ⟨d1, d2, c3, c4⟩ := pE (bb af) [p, p'] wd cz (m := j + 1) (n := n) hj
            rw [c1, c2, c3, c4, hv, List.append_assoc, List.append_assoc _ d2]
            exact mn (by rw [eg]; rfl) qi uz
          rw [xM] at q
          exact jD (fun b o e => by rw [As b (fun z => by rw [z, hc] at e; cases e) (fun z => by rw [z, Cg] at e; cases e)]; exact e) (.str _) q
        · have h := of_decide_eq_false h
          rw [if_neg h] at eg
          have et : Dv.tup [Dv.int (if bA af p' j < bA af p j then bA af p' j else bA af p j), Dv.int (if bA af p' j > bA af p j then bA af p' j else bA af p j)] = eI (bb af [p, p'] j) := by rw [eg]; rfl
          rw [et]
          have O3 : (bb af [p, p'] j).length = 2 := by rw [eg]; rfl
          refine Ce vS ?_
          simp! only []
          refine dB (fun hm => ?_) (fun hm => ?_)
          · have hm : bb af [p, p'] j ∉ (visit (bb af) [p, p'] wd j cz).1 := by simpa using hm
            have hv : visit (bb af) [p, p'] wd (j + 1) cz = ((visit (bb af) [p, p'] wd j cz).1 ++ [bb af [p, p'] j], (visit (bb af) [p, p'] wd j cz).2 ++ [wd ++ nu j]) := by rw [vs]; unfold gr; rw [if_neg hm]
            simp! only [vS, aj ux, Ar]
            refine ⟨by omega, by decide, by omega, by decide, by rw [List.length_drop, jt qi]; omega, Dp _ _ ⟨⟨_, _, _, _, ⟨.int _, .int _, .int _, .eI _⟩, rfl⟩, ?_, ?_, fun b h1 h2 => by rw [aj h2, aj h1]; exact As b h1 h2, fun k hk => ?_, hj⟩⟩
            · rw [aj (Ne.symm ux), updM_same, hv, List.map_append]; rfl
            · rw [updM_same, hv, Cb qi, List.drop_append_of_le_length (by rw [jt qi]; exact Ci)]
            · rw [hv] at hk
              rcases List.mem_append.mp hk with z | z
              · exact uz k z
              · rw [List.mem_singleton.mp z]; exact O3
          · have hm : bb af [p, p'] j ∈ (visit (bb af) [p, p'] wd j cz).1 := by simpa using hm
            have hv : visit (bb af) [p, p'] wd (j + 1) cz = visit (bb af) [p, p'] wd j cz := by rw [vs]; unfold gr; rw [if_pos hm]
            exact Dp _ _ ⟨⟨_, _, _, _, ⟨.int _, .int _, .int _, .eI _⟩, rfl⟩, by rw [hv]; exact vS, by rw [hv]; exact Ar, As, by rw [hv]; exact uz, hj⟩
      · obtain ⟨⟨x7, x8, x9, d9, ⟨p7, p8, p9, jK⟩, rfl⟩, vS, Ar, As, uz, fj⟩ := hJ
        have Ic : (c7 0 n).length = n := rangeD_len 0 n
        rw [Ic] at vS Ar fj uz
        obtain ⟨vk, vw, v1, v2⟩ := eX (bb af) [p, p'] wd n cz
        refine hN _ _ ⟨visit (bb af) [p, p'] wd n cz, ⟨_, _, _, _, _, _, ⟨.eI _, .str _, p7, p8, p9, jK⟩, rfl⟩, vS, Ar, As, uy.visit Aq fun b hb => eS (pB O pw hb), uz, ⟨gk ++ vk, gw ++ vw, by rw [v1, g1, List.append_assoc], by rw [v2, g2, List.append_assoc]⟩, ?_⟩
        rw [← gb, show (cB af.length).length + 1 - (i + t) = ((cB af.length).length + 1 - (i + (t + 1))) + 1 by omega, tZ K6 Aq (by have := uy.le; omega)]
        rfl
    · obtain ⟨cz, ⟨x5, x6, x7, x8, x9, d9, ⟨p5, p6, p7, p8, p9, jK⟩, rfl⟩, Ap, px, pz, uy, Ij, ⟨gk, gw, g1, g2⟩, gb⟩ := hJ
      rw [K5, show i + (st.1.length - i) = st.1.length by omega] at gb
      have Ci : st.1.length ≤ cz.1.length := by rw [g1, List.length_append]; omega
      have Pk := uy.len
      refine .inr ⟨lq, _, rfl, px, Cg, ⟨fun j d e => ?_, fun b o e => ?_⟩, ?_⟩
      · match j, e with
        | 0, e => cases e; exact zz af
        | 1, e => cases e; exact lO _
        | 2, e => cases e; exact .lst fun d hd => ur d (List.mem_of_mem_drop hd)
        | 3, e => cases e; exact .ptr (by rw [bF (Ne.symm ux), Ap]; rfl)
        | 4, e => cases e; exact .lst fun d hd => ur d (List.mem_of_mem_drop hd)
        | 5, e => exact p5 _ _ (Option.some.inj e)
        | 6, e => exact p6 _ _ (Option.some.inj e)
        | 7, e => exact p7 _ _ (Option.some.inj e)
        | 8, e => exact p8 _ _ (Option.some.inj e)
        | 9, e => exact p9 _ _ (Option.some.inj e)
        | 10, e => exact jK _ _ (Option.some.inj e)
        | j + 11, e => exact nomatch e
      · by_cases h : b = c
        · subst h
          rw [bF (Ne.symm ux), Ap] at e
          cases e
          right
          intro d hd
          obtain ⟨k, _, rfl⟩ := List.mem_map.mp hd
          exact lO k
        · left
          have h2 : b ≠ lq := fun z => by rw [z, cS] at e; cases e
          rw [bF h2, pz b h h2] at e
          exact e
      · simp! only []
        refine ⟨_, ?_, st.1.length, cz, rfl, ⟨_, _, _, _, _, _, _, ⟨p5, p6, p7, p8, p9, jK⟩, rfl⟩, by rw [bF (Ne.symm ux)]; exact Ap, fun b hb => ?_, uy, Ij, Ci, gb⟩
        · omega
        · by_cases h : b = lq
          · rw [h, cS, Cg]
          · rw [bF h]; exact pz b hb h
  · have o4 : st.1.length ≤ i := by have := of_decide_eq_false h1; omega
    have e : st = kF af n s := by
      rw [← hb, Ag]
      unfold gH
      simp only [show st.1[i]? = none from List.getElem?_eq_none o4]
    have xM : iN af n s = none := by unfold iN; rw [← e]; exact kQ y9
    rw [xM] at q
    exact jD (fun b o e => by rw [nj b (fun z => by rw [z, hc] at e; cases e)]; exact e) .ao q
noncomputable def vT : cI := fun ds M Q _ => ∃ af n s, ds = [eN af, eI s] ∧ dU af n ∧ dh af.length s ∧ s.length = 2 ∧ Q (.bl true) M
theorem uA {f f1 f2 : Addr} {fd bS fd2 : FuncData} (D : Df K mg "_law_right" gz ["_law_net_here", "_law_pair"] f fd)
    (cc : Df K mg "_law_first_call" dD ["_law_net_here", "_law_pair"] f1 bS) (mS : FnOk P w K mg base bt 1 f1 bS ["_law_net_here", "_law_pair"] (bz P w K tb pD))
    (fY : Df K mg "call_of" jJ ["net", "pair"] f2 fd2) (mr : FnOk P w K mg base (gG P w) 10 f2 fd2 ["net", "pair"] (bz P w K tb pD)) (bl : Bl mg) : FnOk P w K mg base bt 11 f fd ["_law_net_here", "_law_pair"] (bz P w K tb vT) := by
  refine eQ D fx (fun ds M Q E hS => by obtain ⟨af, n, s, e, _⟩ := hS; rw [e]; rfl) fun A outer s0 E Γ ds Q' E' hP hw hK ht hr hS => ?_
  obtain ⟨af, n, s, e, O, hs, h2, q⟩ := hS
  refine ⟨_, (ak (aN (i := 2) fx.nd rfl (Or.inl rfl) (aL mS (hr.mono (by decide)) rfl cc.mg cc.fn.kp cc.bd bu hP hw hK ht XR.none (aa (qv 0) (aa (qv 1) ah))))
    (ak (eO PassesOwn.never rfl (bN rfl bl.range_ (aa aw ah)) (fun nv eP ew eK et => by have hP := hP.trans eP.symm; have hw := hw.trans ew.symm; have hK := hK.trans eK.symm; have ht := ht.trans et.symm; exact ⟨(aR (i := 3) fx.nd rfl (Or.inl rfl)), (ak (aN (i := 4) fx.nd rfl (Or.inl rfl) (aL mr (hr.mono (by decide)) rfl fY.mg fY.fn.kp fY.bd Jr hP hw hK ht XR.none (aa (qv 0) (aa (qv 1) ah))))
    (av (cL (QW.pt (mF (QW.pt (oP (a9 JC (qv 2) lD (bE _)) (mE (a9 zu (qv 4) lD (bE _))))) (mF (QW.pt (oP (a9 zu (qv 2) lD (bE _)) (mE (ie (ib (aH (gM (K := K) rfl) rfl bl.isinstance_ dj (aa (qv 4) (aa (iO (v := .ty "str") rfl bl.str_ Gh rfl) ah)))))))) (lF (a9 (JE hr.units) (qv 4) (qv 2) (bE _))))))
      (av (aX iG))
      qss_nil)))⟩))
    (av (aX iG)))), ?_⟩
  subst e
  simp! only []
  refine ⟨af, n, s, rfl, O, hs, h2, by decide, by decide, ?_⟩
  refine cV (fun i ρ M => (∃ x3 x4, ρ = [some (eN af), some (eI s), some (pC (iN af n s)), x3, x4]) ∧ M = Γ.M0) ⟨⟨_, _, rfl⟩, rfl⟩ (fun i d ρ M N hd hJ hN => ?_) (fun ρ M hJ => ?_)
  · obtain ⟨⟨x3, x4, rfl⟩, rfl⟩ := hJ
    simp! only []
    refine ⟨af, n, s, rfl, O, hs, h2, ?_⟩
    cases ec : iN af n s with
    | none =>
      rw [ec] at hN
      simp! only [pC]
      exact uv rfl (by decide) (hN _ _ ⟨⟨_, _, rfl⟩, rfl⟩)
    | some wd =>
      rw [ec] at hN
      simp! only [pC]
      exact ⟨by decide, uv rfl (Nat.le_of_ble_eq_true rfl) (hN _ _ ⟨⟨_, _, rfl⟩, rfl⟩)⟩
  · obtain ⟨⟨x3, x4, rfl⟩, rfl⟩ := hJ
    exact .inl q
theorem Il {f f1 f2 f4 : Addr} {fd bS fd2 K7 : FuncData} (D : Df K mg "law" xn ["_law_script"] f fd)
    (fc : Df K mg "_law_bag" iL ["_law_script", "_law_at"] f1 bS) (xN : FnOk P w K mg base bt 1 f1 bS ["_law_script", "_law_at"] (bz P w K tb HQ))
    (fe : Df K mg "_law_net" b7 ["_law_bag_here", "_law_most"] f2 fd2) (xO : FnOk P w K mg base bt 3 f2 fd2 ["_law_bag_here", "_law_most"] (bz P w K tb Dc))
    (dN : Df K mg "_law_right" gz ["_law_net_here", "_law_pair"] f4 K7) (uB : FnOk P w K mg base bt 11 f4 K7 ["_law_net_here", "_law_pair"] (bz P w K tb vT)) (bl : Bl mg) :
    FnOk P w K mg base bt 12 f fd ["_law_script"] (bz P w K tb Hj) := by
  refine eQ D mq (fun ds M Q E hS => by obtain ⟨ns, e, _⟩ := hS; rw [e]; rfl) fun A outer s E Γ ds Q' E' hP hw hK ht hr hS => ?_
  obtain ⟨ns, e, hl, hM, q⟩ := hS
  refine ⟨_, (ak (eO PassesOwn.never rfl (bN rfl bl.range_ (aa (aH (zx rfl) rfl bl.max_ yG (aa aw (aa (aH (tE rfl) rfl bl.min_ sG (aa (aH (dX (K := K) rfl hK) rfl bl.len_ PySem.boot_len (aa (qv 0) ah)) (aa aw ah))) ah))) ah)) (fun nv eP ew eK et => by have hP := hP.trans eP.symm; have hw := hw.trans ew.symm; have hK := hK.trans eK.symm; have ht := ht.trans et.symm; exact ⟨(aR (i := 1) mq.nd rfl (Or.inl rfl)), (ak (aN (i := 2) mq.nd rfl (Or.inl rfl) (aL xO (hr.mono (by decide)) rfl fe.mg fe.fn.kp fe.bd bu hP hw hK ht XR.none (aa (aL xN (hr.mono (by decide)) rfl fc.mg fc.fn.kp fc.bd bu hP hw hK ht XR.none (aa (qv 0) (aa (qv 1) ah))) (aa aw ah))))
    (av (eO PassesOwn.never rfl (bN rfl bl.range_ (aa (aH (dX (K := K) rfl hK) rfl bl.len_ PySem.boot_len (aa (qv 2) ah)) ah)) (fun nv eP ew eK et => by have hP := hP.trans eP.symm; have hw := hw.trans ew.symm; have hK := hK.trans eK.symm; have ht := ht.trans et.symm; exact ⟨(aR (i := 3) mq.nd rfl (Or.inl rfl)), (av (eO PassesOwn.never rfl (bN rfl bl.range_ (aa (qv 3) ah)) (fun nv eP ew eK et => by have hP := hP.trans eP.symm; have hw := hw.trans ew.symm; have hK := hK.trans eK.symm; have ht := ht.trans et.symm; exact ⟨(aR (i := 4) mq.nd rfl (Or.inl rfl)), (av (cL (ie (ib (aL uB (hr.mono (by decide)) rfl dN.mg dN.fn.kp dN.bd bu hP hw hK ht XR.none (aa (qv 2) (aa (lH (aa (qv 4) (aa (qv 3) ah))) ah)))))
      (av (aX iG))
      qss_nil))⟩)))⟩))))⟩))
    (av (aX iG))), ?_⟩
  subst e
  simp! only []
  refine ⟨by split <;> split <;> omega, by split <;> split <;> omega, ?_⟩
  refine cV (fun k ρ M => (∃ x1 x2 x3 x4, ρ = [some (.bq ns), x1, x2, x3, x4])) ⟨_, _, _, _, rfl⟩ (fun k d ρ M N hd hJ hN => ?_) (fun ρ M _ => .inl (q _))
  obtain ⟨x1, x2, x3, x4, rfl⟩ := hJ
  obtain ⟨rfl, hk⟩ := dn hd
  have hk : k ≤ 8 := by split at hk <;> split at hk <;> omega
  simp! only []
  refine ⟨ns, _, rfl, hl, by omega, by omega, fun b hb => ?_⟩
  refine ⟨b, 9, rfl, updM_same, by omega, by omega, fun af n O _ => ?_⟩
  have h9 := O.nine
  simp! only []
  refine ⟨by omega, by omega, ?_⟩
  refine cV (fun j ρ M' => (∃ x3 x4, ρ = [some (.bq ns), some (.int (k : Nat)), some (eN af), x3, x4])) ⟨_, _, rfl⟩ (fun j d ρ M' N' hd hJ Dp => ?_) (fun ρ M' hJ => ?_)
  · obtain ⟨x3, x4, rfl⟩ := hJ
    obtain ⟨rfl, hj⟩ := dn hd
    simp! only []
    refine ⟨by omega, by omega, ?_⟩
    refine cV (fun i ρ M' => (∃ x4, ρ = [some (.bq ns), some (.int (k : Nat)), some (eN af), some (.int (j : Nat)), x4])) ⟨_, rfl⟩ (fun i d ρ M' N2 hd hJ vP => ?_) (fun ρ M' hJ => ?_)
    · obtain ⟨x4, rfl⟩ := hJ
      obtain ⟨rfl, hi⟩ := dn hd
      simp! only []
      refine ⟨by decide, af, n, [((i : Nat) : Int), ((j : Nat) : Int)], rfl, O, ⟨by simp; omega, fun p hp => ?_, by simp⟩, rfl, vP _ _ ⟨_, rfl⟩⟩
      simp at hp
      rcases hp with rfl | rfl <;> omega
    · obtain ⟨x4, rfl⟩ := hJ
      exact Dp _ _ ⟨_, _, rfl⟩
  · obtain ⟨x3, x4, rfl⟩ := hJ
    exact hN _ _ ⟨_, _, _, _, rfl⟩
end
theorem all_mk {l : PySem.W.OpenLaw} {w : World} {K : PySem.W.Frag} {h : Heap} {mg : Str → Option Value} {fa : Addr} {tabs lts : List Addr} {nA cN dZ : Addr} (X : K.In h) (G : h.Ns mainGlobals mg) (O4 : mg "law" = some (.ref fa))
    (T : Paired (TabOf mg h) ["is_row", "is_net", "is_set"] tabs) (U : Paired (TabOf mg h) ["images_met"] lts)
    (n_RoadError : PySem.W.nsIn K mainGlobals "RoadError" = some (some (.ref nA)))
    (n_NoNet : PySem.W.nsIn K mainGlobals "NoNet" = some (some (.ref cN)))
    (n_NoPair : PySem.W.nsIn K mainGlobals "NoPair" = some (some (.ref dZ)))
    (eb : wL K nA [cN, dZ] = true) (ndc : [cN, dZ].Nodup)
    (d_is_whole : bY K "is_whole" dq)
    (d_is_whole_below : bY K "is_whole_below" bQ)
    (d_is_row : bY K "is_row" jj)
    (d_is_net : bY K "is_net" jk)
    (d_need_net : bY K "need_net" iJ)
    (d_is_place : bY K "is_place" iK)
    (d_first_met : ∃ tk, lU K "first_met" gX (.int 511 tk))
    (d_is_set : bY K "is_set" jl)
    (d_is_pair : bY K "is_pair" jI)
    (d_sign_image : bY K "sign_image" dH)
    (d_images_met : bY K "images_met" aB)
    (d_first_call : bY K "first_call" gy)
    (d_need_pair : bY K "need_pair" gY)
    (d_call_of : bY K "call_of" jJ)
    (d__law_bag : bY K "_law_bag" iL)
    (d__law_take : bY K "_law_take" fq)
    (d__law_order : bY K "_law_order" eR)
    (d__law_net : bY K "_law_net" b7)
    (d__law_first_call : bY K "_law_first_call" dD)
    (d__law_right : bY K "_law_right" gz)
    (d_law : bY K "law" xn)
    (z_len : PySem.W.nsIn K mainGlobals "len" = some none)
    (z_range : PySem.W.nsIn K mainGlobals "range" = some none)
    (z_min : PySem.W.nsIn K mainGlobals "min" = some none)
    (z_max : PySem.W.nsIn K mainGlobals "max" = some none)
    (z_abs : PySem.W.nsIn K mainGlobals "abs" = some none)
    (z_list : PySem.W.nsIn K mainGlobals "list" = some none)
    (z_tuple : PySem.W.nsIn K mainGlobals "tuple" = some none)
    (z_int : PySem.W.nsIn K mainGlobals "int" = some none)
    (z_str : PySem.W.nsIn K mainGlobals "str" = some none)
    (z_bool : PySem.W.nsIn K mainGlobals "bool" = some none)
    (z_isinstance : PySem.W.nsIn K mainGlobals "isinstance" = some none)
    (z_all : PySem.W.nsIn K mainGlobals "all" = some none)
    (z_set : PySem.W.nsIn K mainGlobals "set" = some none)
    (z_sorted : PySem.W.nsIn K mainGlobals "sorted" = some none)
    (z_zip : PySem.W.nsIn K mainGlobals "zip" = some none)
    (z_enumerate : PySem.W.nsIn K mainGlobals "enumerate" = some none)
    (z_sum : PySem.W.nsIn K mainGlobals "sum" = some none)
    (z_reversed : PySem.W.nsIn K mainGlobals "reversed" = some none)
    (z_divmod : PySem.W.nsIn K mainGlobals "divmod" = some none)
    (z_any : PySem.W.nsIn K mainGlobals "any" = some none)
    (z_ValueError : PySem.W.nsIn K mainGlobals "ValueError" = some none)
    (t_SIGNS : ∃ tk, PySem.W.nsIn K mainGlobals "SIGNS" = some (some (.str "abc" tk)))
    (t_MOST_PLACES : ∃ tk, PySem.W.nsIn K mainGlobals "MOST_PLACES" = some (some (.int 9 tk)))
    : ∃ fd : FuncData, (∀ (s : Shared) (v : Value), BindsTo s fd ⟨[v], []⟩ [("_law_script", v)]) ∧ ∀ base : Heap, K.In base → base.Ns mainGlobals mg → (∃ bm ob, BMod base mainGlobals mg bm ob) → (∀ c p, PySem.W.CodeHd h c p → PySem.W.CodeHd base c p) → FnOk l.prog w K mg base bt 12 fa fd ["_law_script"] (spLaw K ⟨tabs, lts.zip [qI]⟩) := by
  obtain ⟨JS, IA, bj⟩ := d_is_whole.df X G ["thing"] fun _ _ _ _ _ _ us hl => match us, hl with | [_], _ => rfl
  obtain ⟨Cj, Az, aE⟩ := d_is_whole_below.df X G ["thing", "many"] fun _ _ _ _ _ _ us hl => match us, hl with | [_, _], _ => rfl
  obtain ⟨MG, K8, fJ⟩ := d_is_row.df X G ["thing", "many", "width"] fun _ _ _ _ _ _ us hl => match us, hl with | [_, _, _], _ => rfl
  obtain ⟨MH, K9, fK⟩ := d_is_net.df X G ["thing"] fun _ _ _ _ _ _ us hl => match us, hl with | [_], _ => rfl
  obtain ⟨JT, IB, fb⟩ := d_need_net.df X G ["thing"] fun _ _ _ _ _ _ us hl => match us, hl with | [_], _ => rfl
  obtain ⟨JU, IC, e8⟩ := d_is_place.df X G ["net", "thing"] fun _ _ _ _ _ _ us hl => match us, hl with | [_, _], _ => rfl
  obtain ⟨Im, d_first_met⟩ := d_first_met
  obtain ⟨IE, Io, ej⟩ := d_first_met.df X G ["start", "width", "step", "most"] (fun _ _ _ _ _ _ _ us hl => match us, hl with | [_, _, _], _ => ⟨_, rfl, rfl⟩) fun _ _ _ _ _ _ _ us hl => match us, hl with | [_, _, _, _], _ => ⟨_, rfl, rfl⟩
  obtain ⟨MI, La, fM⟩ := d_is_set.df X G ["net", "thing"] fun _ _ _ _ _ _ us hl => match us, hl with | [_, _], _ => rfl
  obtain ⟨Lb, JV, fX⟩ := d_is_pair.df X G ["net", "thing"] fun _ _ _ _ _ _ us hl => match us, hl with | [_, _], _ => rfl
  obtain ⟨Ip, EI, cJ⟩ := d_sign_image.df X G ["net", "places", "at"] fun _ _ _ _ _ _ us hl => match us, hl with | [_, _, _], _ => rfl
  obtain ⟨Iq, EJ, da⟩ := d_images_met.df X G ["net", "places"] fun _ _ _ _ _ _ us hl => match us, hl with | [_, _], _ => rfl
  obtain ⟨Ir, EK, dM⟩ := d_first_call.df X G ["net", "places"] fun _ _ _ _ _ _ us hl => match us, hl with | [_, _], _ => rfl
  obtain ⟨IG, Iu, eu⟩ := d_need_pair.df X G ["net", "thing"] fun _ _ _ _ _ _ us hl => match us, hl with | [_, _], _ => rfl
  obtain ⟨Lc, JW, fY⟩ := d_call_of.df X G ["net", "pair"] fun _ _ _ _ _ _ us hl => match us, hl with | [_, _], _ => rfl
  obtain ⟨JX, IH, fc⟩ := d__law_bag.df X G ["_law_script", "_law_at"] fun _ _ _ _ _ _ us hl => match us, hl with | [_, _], _ => rfl
  obtain ⟨II, Iv, au⟩ := d__law_take.df X G ["_law_bag_here", "_law_many"] fun _ _ _ _ _ _ us hl => match us, hl with | [_, _], _ => rfl
  obtain ⟨Iw, EL, b8⟩ := d__law_order.df X G ["_law_bag_here", "_law_many"] fun _ _ _ _ _ _ us hl => match us, hl with | [_, _], _ => rfl
  obtain ⟨JY, IJ, fe⟩ := d__law_net.df X G ["_law_bag_here", "_law_most"] fun _ _ _ _ _ _ us hl => match us, hl with | [_, _], _ => rfl
  obtain ⟨AA, Au, cc⟩ := d__law_first_call.df X G ["_law_net_here", "_law_pair"] fun _ _ _ _ _ _ us hl => match us, hl with | [_, _], _ => rfl
  obtain ⟨Iy, ER, dN⟩ := d__law_right.df X G ["_law_net_here", "_law_pair"] fun _ _ _ _ _ _ us hl => match us, hl with | [_, _], _ => rfl
  obtain ⟨O8, Iz, xP⟩ := d_law.df X G ["_law_script"] fun _ _ _ _ _ _ us hl => match us, hl with | [_], _ => rfl
  have IK := PySem.W.mg_of X G n_RoadError
  have qh := PySem.W.mg_of X G n_NoNet
  have n6 := PySem.W.mg_of X G n_NoPair
  have X_ := DZ eb
  have qg : cN ∈ [cN, dZ] := by simp
  have n5 : dZ ∈ [cN, dZ] := by simp
  have e := O4.symm.trans xP.mg
  cases e
  have bl : Bl mg := ⟨PySem.W.mg_none_of X G z_len, PySem.W.mg_none_of X G z_range, PySem.W.mg_none_of X G z_min, PySem.W.mg_none_of X G z_max, PySem.W.mg_none_of X G z_abs, PySem.W.mg_none_of X G z_list, PySem.W.mg_none_of X G z_tuple, PySem.W.mg_none_of X G z_int, PySem.W.mg_none_of X G z_str, PySem.W.mg_none_of X G z_bool, PySem.W.mg_none_of X G z_isinstance, PySem.W.mg_none_of X G z_all, PySem.W.mg_none_of X G z_set, PySem.W.mg_none_of X G z_sorted, PySem.W.mg_none_of X G z_zip, PySem.W.mg_none_of X G z_enumerate, PySem.W.mg_none_of X G z_sum, PySem.W.mg_none_of X G z_reversed, PySem.W.mg_none_of X G z_divmod, PySem.W.mg_none_of X G z_any, PySem.W.mg_none_of X G z_ValueError⟩
  obtain ⟨MJ, t_SIGNS⟩ := t_SIGNS
  have jq := PySem.W.mg_of X G t_SIGNS
  obtain ⟨EF, t_MOST_PLACES⟩ := t_MOST_PLACES
  have gR := PySem.W.mg_of X G t_MOST_PLACES
  obtain ⟨aV, Ld, rfl, Ck, T⟩ := gU T
  obtain ⟨bo, Le, rfl, Cm, T⟩ := gU T
  obtain ⟨bp, Lf, rfl, Cp, T⟩ := gU T
  cases T
  obtain ⟨aI, EV, rfl, uC, U⟩ := gU U
  cases U
  refine ⟨Iz, fun s v => xP.bind1 s v (by intros; rfl), fun base _ _ eA tr => ?_⟩
  obtain ⟨kA, gQ⟩ := oC fJ X Ck tr
  obtain ⟨ua, kB⟩ := oC fK X Cm tr
  obtain ⟨uk, kG⟩ := oC fM X Cp tr
  obtain ⟨mi, gA⟩ := oC da X uC tr
  have Av : aV ∈ (⟨[aV, bo, bp], [(aI, qI)]⟩ : cP) := by show _ ∈ [aV, bo, bp]; simp
  have Aw : bo ∈ (⟨[aV, bo, bp], [(aI, qI)]⟩ : cP) := by show _ ∈ [aV, bo, bp]; simp
  have Ax : bp ∈ (⟨[aV, bo, bp], [(aI, qI)]⟩ : cP) := by show _ ∈ [aV, bo, bp]; simp
  have gS : (aI, qI) ∈ (⟨[aV, bo, bp], [(aI, qI)]⟩ : cP).l := by simp
  have gT : ∀ q ∈ (⟨[aV, bo, bp], [(aI, qI)]⟩ : cP).l, q.1 = aI → q.2 = qI := by simp
  have nX := Ab (P := l.prog) (w := w) (tb := (⟨[aV, bo, bp], [(aI, qI)]⟩ : cP)) fK kB Aw fJ gQ Av eA aE bj bl gR
  have kH := uW fb fK nX X_ qg qh
  have nZ := An (P := l.prog) (w := w) (base := base) (tb := (⟨[aV, bo, bp], [(aI, qI)]⟩ : cP)) fM kG Ax eA e8 aE bj bl
  have mj := xJ fX fM nZ bl
  have jS := uo eu fX mj X_ n5 n6
  have jr := rP (P := l.prog) (w := w) (tb := (⟨[aV, bo, bp], [(aI, qI)]⟩ : cP)) da gA eA gS gT ej cJ bl jq
  have js := rQ dM da jr bl
  have mr := xK fY fb kH eu jS dM js
  have Ay := HR (tb := (⟨[aV, bo, bp], [(aI, qI)]⟩ : cP)) (uS (P := l.prog) (w := w) (base := base) au)
  have JZ := JP (tb := (⟨[aV, bo, bp], [(aI, qI)]⟩ : cP)) (xo (P := l.prog) (w := w) (base := base) fc bl)
  have EG := t6 b8 au Ay bl
  have J0 := xr fe au Ay b8 EG bl
  have MK := mR (P := l.prog) (w := w) (base := base) (tb := (⟨[aV, bo, bp], [(aI, qI)]⟩ : cP)) cc bl
  have EH := uA dN cc MK fY mr bl
  exact Hk (Il xP fc JZ fe J0 dN EH bl)
theorem walk {l : PySem.W.OpenLaw} {q : Program} {loose : List Str} {XP : (Str → Option Value) → Heap → Prop} {YP : World → Heap → Prop} {d : DefRec} {K : Params → PySem.W.Frag} (hn : l.most = some 63) (yu : d.params.defaults = [])
    (zL : ∀ w : World, PySem.W.kb_classed (K w.params) = true) (C5 : ∀ y ∈ ((["is_row", "is_net", "is_set"] : List Str) ++ (["images_met"] : List Str)), ∃ r ∈ recsOf q, r.name = y) (m6 : ∀ w : World, qd (K w.params) ["is_row", "is_net", "is_set"] ["images_met"] = true) (hY : ∀ (w : World) (h : Heap), YP w h → (K w.params).In h)
    (F : ∀ (w : World) (mg : Str → Option Value) (fa : Addr) (h : Heap) (tabs lts : List Addr), (K w.params).In h → h.Ns mainGlobals mg → mg d.name = some (.ref fa) →
      Paired (TabOf mg h) ["is_row", "is_net", "is_set"] tabs → Paired (TabOf mg h) ["images_met"] lts →
      ∃ fd : FuncData, (∀ (s : Shared) (u : Value), BindsTo s fd ⟨[u], []⟩ [("_law_script", u)]) ∧
        ∀ base : Heap, (K w.params).In base → base.Ns mainGlobals mg → (∃ bm ob, BMod base mainGlobals mg bm ob) → (∀ c p, PySem.W.CodeHd h c p → PySem.W.CodeHd base c p) → FnOk l.prog w (K w.params) mg base bt 12 fa fd ["_law_script"] (spLaw (K w.params) ⟨tabs, lts.zip [qI]⟩)) :
    PySem.W.WalkO q loose XP YP l.row.toRowW d [] (fun f vs => PySem.call f vs) :=
  L2.BW (n := 63) (k := 12) (x := "_law_script") (CX := bt) (sp := fun K tabs lts => spLaw K ⟨tabs, lts.zip [qI]⟩) hn (by decide) yu ⟨rfl, by decide, by decide⟩ zL C5 m6 hY F (fun _ _ _ _ a ns hl hn hT hL hS => BX hl hn hT hL hS) fun _ _ _ _ z => z
end My
open PySem PySem.W PyProof.Rows L2
set_option maxRecDepth 100000 in
set_option maxHeartbeats 0 in
theorem PySem.Challenge.cw_roadcall_k25_pairs_called_holds : PySem.Challenge.rw_roadcall_k25_pairs_called.Holds := by
  w_on; o_law; k_head; (case hw => w_witness2)
  k_fill
  refine My.walk (l := PySem.Challenge.rw_roadcall_k25_pairs_called) rfl rfl (fun w => rfl) ?nms ?tdis (fun w h Y => PySem.W.km_in_of Y) ?F
  (case nms => exact DS (by decide +kernel))
  (case tdis => intro w; kernel_rfl)
  case F =>
    intro w mg fa h tabs lts KX G yw T U
    refine' My.all_mk KX G yw T U ?n_RoadError ?n_NoNet ?n_NoPair ?eb ?ndc ?d_is_whole ?d_is_whole_below ?d_is_row ?d_is_net ?d_need_net ?d_is_place ?d_first_met ?d_is_set ?d_is_pair ?d_sign_image ?d_images_met ?d_first_call ?d_need_pair ?d_call_of ?d__law_bag ?d__law_take ?d__law_order ?d__law_net ?d__law_first_call ?d__law_right ?d_law ?z_len ?z_range ?z_min ?z_max ?z_abs ?z_list ?z_tuple ?z_int ?z_str ?z_bool ?z_isinstance ?z_all ?z_set ?z_sorted ?z_zip ?z_enumerate ?z_sum ?z_reversed ?z_divmod ?z_any ?z_ValueError ?t_SIGNS ?t_MOST_PLACES
    (case n_RoadError => k_is)
    (case n_NoNet => k_is)
    (case n_NoPair => k_is)
    (case eb => kernel_rfl)
    (case ndc => decide)
    (case d_is_whole => refine' L2.aZ ?a ?l ?c ?k; (case a => k_is); (case l => k_is); (case c => k_is); (case k => k_is))
    (case d_is_whole_below => refine' L2.aZ ?a ?l ?c ?k; (case a => k_is); (case l => k_is); (case c => k_is); (case k => k_is))
    (case d_is_row => refine' L2.aZ ?a ?l ?c ?k; (case a => k_is); (case l => k_is); (case c => k_is); (case k => k_is))
    (case d_is_net => refine' L2.aZ ?a ?l ?c ?k; (case a => k_is); (case l => k_is); (case c => k_is); (case k => k_is))
    (case d_need_net => refine' L2.aZ ?a ?l ?c ?k; (case a => k_is); (case l => k_is); (case c => k_is); (case k => k_is))
    (case d_is_place => refine' L2.aZ ?a ?l ?c ?k; (case a => k_is); (case l => k_is); (case c => k_is); (case k => k_is))
    (case d_first_met => refine' L2.zP ?a ?l ?c ?k ?t ?u; (case a => k_is); (case l => k_is); (case c => k_is); (case k => k_is); (case t => k_is); (case u => exact rfl))
    (case d_is_set => refine' L2.aZ ?a ?l ?c ?k; (case a => k_is); (case l => k_is); (case c => k_is); (case k => k_is))
    (case d_is_pair => refine' L2.aZ ?a ?l ?c ?k; (case a => k_is); (case l => k_is); (case c => k_is); (case k => k_is))
    (case d_sign_image => refine' L2.aZ ?a ?l ?c ?k; (case a => k_is); (case l => k_is); (case c => k_is); (case k => k_is))
    (case d_images_met => refine' L2.aZ ?a ?l ?c ?k; (case a => k_is); (case l => k_is); (case c => k_is); (case k => k_is))
    (case d_first_call => refine' L2.aZ ?a ?l ?c ?k; (case a => k_is); (case l => k_is); (case c => k_is); (case k => k_is))
    (case d_need_pair => refine' L2.aZ ?a ?l ?c ?k; (case a => k_is); (case l => k_is); (case c => k_is); (case k => k_is))
    (case d_call_of => refine' L2.aZ ?a ?l ?c ?k; (case a => k_is); (case l => k_is); (case c => k_is); (case k => k_is))
    (case d__law_bag => refine' L2.aZ ?a ?l ?c ?k; (case a => k_is); (case l => k_is); (case c => k_is); (case k => k_is))
    (case d__law_take => refine' L2.aZ ?a ?l ?c ?k; (case a => k_is); (case l => k_is); (case c => k_is); (case k => k_is))
    (case d__law_order => refine' L2.aZ ?a ?l ?c ?k; (case a => k_is); (case l => k_is); (case c => k_is); (case k => k_is))
    (case d__law_net => refine' L2.aZ ?a ?l ?c ?k; (case a => k_is); (case l => k_is); (case c => k_is); (case k => k_is))
    (case d__law_first_call => refine' L2.aZ ?a ?l ?c ?k; (case a => k_is); (case l => k_is); (case c => k_is); (case k => k_is))
    (case d__law_right => refine' L2.aZ ?a ?l ?c ?k; (case a => k_is); (case l => k_is); (case c => k_is); (case k => k_is))
    (case d_law => refine' L2.aZ ?a ?l ?c ?k; (case a => k_is); (case l => k_is); (case c => k_is); (case k => k_is))
    (case z_len => k_is)
    (case z_range => k_is)
    (case z_min => k_is)
    (case z_max => k_is)
    (case z_abs => k_is)
    (case z_list => k_is)
    (case z_tuple => k_is)
    (case z_int => k_is)
    (case z_str => k_is)
    (case z_bool => k_is)
    (case z_isinstance => k_is)
    (case z_all => k_is)
    (case z_set => k_is)
    (case z_sorted => k_is)
    (case z_zip => k_is)
    (case z_enumerate => k_is)
    (case z_sum => k_is)
    (case z_reversed => k_is)
    (case z_divmod => k_is)
    (case z_any => k_is)
    (case z_ValueError => k_is)
    (case t_SIGNS => refine' L2.Be ?a; (case a => k_is))
    (case t_MOST_PLACES => refine' L2.Bf ?a; (case a => k_is))
