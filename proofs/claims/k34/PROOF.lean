import PyProof.Rows.All
import Wide.All
import OpenK.AllK
import Wide.FinOn
import Lean
import PyProof.EqAt
import PyProof.EqKinds
import PyProof.TupleCall
import PyProof.NeKinds
import PyProof.EnumMake
import PyProof.EnumFor
import PyProof.ZipIter
import PyProof.Rows.ZipGen
import KE.KLam
import PyProof.DictItems
import KE.KTurnsDict
import KE.KPairComp
import PySem.Challenge.RW_roadcall_k34_shortest_of_sets
set_option linter.all false
set_option Elab.async false
set_option maxRecDepth 100000
namespace L2
open PySem PySem.Spec PyProof.Rows
noncomputable abbrev Key := Sum Int Str
noncomputable def lY : Key → Value → Bool
  | .inl k, v => Value.isInt k v
  | .inr x, v => Value.isStrOf x v
noncomputable def KU (w : World) : Key → Int
  | .inl k => hashInt k
  | .inr x => hashStr w x
theorem bS : ∀ {k : Key} {v : Value}, lY k v = true → (∃ i t, k = Sum.inl i ∧ v = Value.int i t) ∨ (∃ x t, k = Sum.inr x ∧ v = Value.str x t)
  | .inl i, v, h => by
    obtain ⟨t, e⟩ := Value.isInt_shape (k := i) (v := v) h
    exact .inl ⟨i, t, rfl, e⟩
  | .inr x, v, h => by
    obtain ⟨t, e⟩ := Value.isStrOf_shape (x := x) (v := v) h
    exact .inr ⟨x, t, rfl, e⟩
theorem xF (i : Int) (t : Tok) : lY (.inl i) (.int i t) = true := by simp [lY, Value.isInt]
theorem xG (x : Str) (t : Tok) : lY (.inr x) (.str x t) = true := by simp [lY, Value.isStrOf]
theorem Ep (a b : Int) : decide ((Sum.inl a : Key) = Sum.inl b) = (a == b) := by
  by_cases e : a = b
  · subst e; simp
  · have h : ¬ (Sum.inl a : Key) = Sum.inl b := fun q => e (Sum.inl.inj q)
    rw [decide_eq_false h]
    exact (beq_eq_false_iff_ne.mpr e).symm
theorem Er (a b : Str) : decide ((Sum.inr a : Key) = Sum.inr b) = decide (a = b) := by
  by_cases e : a = b
  · subst e; simp
  · have h : ¬ (Sum.inr a : Key) = Sum.inr b := fun q => e (Sum.inr.inj q)
    rw [decide_eq_false h, decide_eq_false e]
theorem Es (a : Int) (b : Str) : decide ((Sum.inl a : Key) = Sum.inr b) = false := decide_eq_false (fun q => nomatch q)
theorem Et (a : Str) (b : Int) : decide ((Sum.inr a : Key) = Sum.inl b) = false := decide_eq_false (fun q => nomatch q)
noncomputable def bJ (prog : Program) (w : World) : PySem.KeyKind prog w Key where
  is := lY
  hash := KU w
  inj := fun v a b ha hb => by
    rcases bS ha with ⟨i, t, rfl, rfl⟩ | ⟨x, t, rfl, rfl⟩
    · rcases bS hb with ⟨j, u, rfl, e⟩ | ⟨y, u, rfl, e⟩
      · injection e with e1 _; rw [e1]
      · exact nomatch e
    · rcases bS hb with ⟨j, u, rfl, e⟩ | ⟨y, u, rfl, e⟩
      · exact nomatch e
      · injection e with e1 _; rw [e1]
  byValue := fun k v h => by
    rcases bS h with ⟨i, t, rfl, rfl⟩ | ⟨x, t, rfl, rfl⟩ <;> rfl
  pyHash := fun hv h => by
    rcases bS hv with ⟨i, t, rfl, rfl⟩ | ⟨x, t, rfl, rfl⟩
    · exact wpAny_pyHash_int h
    · exact wpAny_pyHash_str h
  eqBool := fun hu hv h => by
    rcases bS hu with ⟨i, t, rfl, rfl⟩ | ⟨x, t, rfl, rfl⟩
    · rcases bS hv with ⟨j, u, rfl, rfl⟩ | ⟨y, u, rfl, rfl⟩
      · rw [Ep] at h; exact wpAny_eqBool_int h
      · rw [Es] at h; exact SeqAt.EqAt.int_str i t y u _ _ _ _ h
    · rcases bS hv with ⟨j, u, rfl, rfl⟩ | ⟨y, u, rfl, rfl⟩
      · rw [Et] at h; exact SeqAt.EqAt.str_int x t j u _ _ _ _ h
      · rw [Er] at h; exact wpAny_eqBool_str h
  «strs» := fun k x t v h => by
    rcases bS h with ⟨i, u, rfl, e⟩ | ⟨y, u, rfl, e⟩
    · exact nomatch e
    · injection e with e1 _
      subst e1
      cases v <;> rfl
theorem uf (prog : Program) (w : World) (i : Int) (t : Tok) : (bJ prog w).is (.inl i) (.int i t) = true := xF i t
theorem ug (prog : Program) (w : World) (x : Str) (t : Tok) : (bJ prog w).is (.inr x) (.str x t) = true := xG x t
inductive V where
  | aq | bl (b : Bool) | int (i : Int) | str (x : Str) | iO (b : Array UInt8) | uL (b : UInt64) | ref (a : Addr) | ty (n : String)
  deriving DecidableEq
noncomputable def RelV : V → Value → Prop
  | .aq, u => u = Value.none
  | .bl b, u => u = Value.bool b
  | .int i, u => ∃ t, u = Value.int i t
  | .str x, u => ∃ t, u = Value.str x t
  | .iO b, u => ∃ t, u = Value.bytes b t
  | .uL b, u => ∃ t, u = Value.float b t
  | .ref a, u => u = Value.ref a
  | .ty n, u => u = Value.type n
noncomputable abbrev Vals : List V → List Value → Prop := Paired RelV
theorem Vals.length {xs : List V} {us : List Value} (r : Vals xs us) : xs.length = us.length := Paired.length r
theorem Vals.get : ∀ {xs : List V} {us : List Value} {i : Nat} {x : V}, Vals xs us → xs[i]? = some x → ∃ u, us[i]? = some u ∧ RelV x u
  | _, _, _, _, .nil, e => by simp at e
  | _, _, 0, _, .cons r _, e => by simp at e; subst e; exact ⟨_, rfl, r⟩
  | _, _, i + 1, x, .cons _ t, e => by
    obtain ⟨u, h1, h2⟩ := Vals.get (i := i) (x := x) t (by simpa using e)
    exact ⟨u, by simpa using h1, h2⟩
theorem Vals.set {x : V} {u : Value} (r : RelV x u) : ∀ {xs : List V} {us : List Value} (i : Nat), Vals xs us → Vals (xs.set i x) (us.set i u)
  | _, _, _, .nil => .nil
  | _, _, 0, .cons _ t => .cons r t
  | _, _, i + 1, .cons q t => .cons q (Vals.set r i t)
theorem Vals.append : ∀ {xs ys : List V} {us ws : List Value}, Vals xs us → Vals ys ws → Vals (xs ++ ys) (us ++ ws)
  | _, _, _, _, .nil, s => s
  | _, _, _, _, .cons r t, s => .cons r (Vals.append t s)
theorem Vals.take : ∀ {xs : List V} {us : List Value} (n : Nat), Vals xs us → Vals (xs.take n) (us.take n)
  | _, _, 0, _ => .nil
  | _, _, _ + 1, .nil => .nil
  | _, _, n + 1, .cons r t => .cons r (Vals.take n t)
theorem Vals.drop : ∀ {xs : List V} {us : List Value} (n : Nat), Vals xs us → Vals (xs.drop n) (us.drop n)
  | _, _, 0, r => r
  | _, _, _ + 1, .nil => .nil
  | _, _, n + 1, .cons _ t => Vals.drop n t
noncomputable def iP : Option V → Option Value → Prop
  | some v, some u => RelV v u
  | none, none => True
  | _, _ => False
noncomputable def KV {κ : Type} : List (κ × V) → List (κ × Value) → Prop := Paired fun (p : κ × V) (q : κ × Value) => p.1 = q.1 ∧ RelV p.2 q.2
noncomputable def kV : Key → V
  | .inl i => .int i
  | .inr x => .str x
inductive HO where
  | lst (xs : List V)
  | tup (xs : List V)
  | dK (au : List (Key × V)) | dT (au : List (List Key × V))
  | set (S : Int → Bool) (n : Nat)
  | ins (C dx : Addr) (fs : List (Str × V))
  | own (x : Addr)
  | xd (fs : List (Str × V))
  | met (f x : Addr)
  | rng (lo hi : Int)
  | bA (o : Obj) (u : HO)
  | cz (ps : Array Value)
  | lam (ps : Array Value)
  | ext (φ : Heap → Prop)
noncomputable abbrev Hp := Addr → Option HO
noncomputable def upd (H : Hp) (a : Addr) (o : HO) : Hp := fun b => if b = a then some o else H b
theorem ay {H : Hp} {a : Addr} {o : HO} : upd H a o a = some o := by unfold upd; rw [if_pos rfl]
theorem ae {H : Hp} {a b : Addr} {o : HO} (h : b ≠ a) : upd H a o b = H b := by unfold upd; rw [if_neg h]
theorem vF {H : Hp} {a b : Addr} {o u : HO} (h : H a = some o) (h' : H b = some u) (d : o ≠ u) : a ≠ b := by
  intro e; subst e; rw [h] at h'; exact d (Option.some.inj h')
theorem aU {H : Hp} {a b : Addr} {o : HO} (h : H a = some o) (h' : H b = none) : a ≠ b := by
  intro e; subst e; rw [h] at h'; cases h'
section
variable (P : Program) (w : World)
noncomputable def j6 (h : Heap) (a : Addr) (items : Array Value) : Prop := ∃ o, h.get? a = some o ∧ o.cls = .type "tuple" ∧ ∃ n, o.data = .seq items n ∧ o.dict = none
theorem j6.tup {h : Heap} {a : Addr} {items : Array Value} (x : j6 h a items) : IsTup h a items := let ⟨o, e, c, n, d, _⟩ := x; ⟨o, e, c, n, d⟩
theorem j6.lt {h : Heap} {a : Addr} {items : Array Value} (x : j6 h a items) : a < h.objs.size := x.tup.lt
theorem j6.new (h : Heap) (items : Array Value) : j6 (h.push { cls := .type "tuple", data := .seq items }) h.objs.size items := ⟨_, Heap.get?_push_size _ rfl, rfl, _, rfl, rfl⟩
noncomputable def ObjOk (H : Hp) (h : Heap) (a : Addr) : HO → Prop
  | .lst xs => xs.length ≤ sizeLine ∧ ∃ (its : List Value) (n : Nat), Vals xs its ∧ h.get? a = some { cls := .type "list", data := .seq its.toArray n }
  | .tup xs => xs.length ≤ sizeLine ∧ ∃ its : List Value, Vals xs its ∧ j6 h a its.toArray
  | .dK au => au.length ≤ sizeLine ∧ (a == sysModules) = false ∧ ∃ vs, KV au vs ∧ h.DictOf (bJ P w) a vs
  | .dT au => au.length ≤ sizeLine ∧ (a == sysModules) = false ∧ ∃ xs : List (List Key × Addr × Value),
      Paired (fun (p : List Key × V) (q : List Key × Addr × Value) => p.1 = q.1 ∧ H q.2.1 = some (.tup (p.1.map kV)) ∧ RelV p.2 q.2.2) au xs ∧
      ∃ o es ep, h.get? a = some o ∧ o.ExactDict ∧ o.data = .dict es ep ∧ es.toList = xs.map (entryOfKey (tupleKind (bJ P w))) ∧ (xs.map (·.1)).Nodup
  | .set S n => h.SetOf (intKind P w) a S n
  | .ins C dx fs => H dx = some (.own a) ∧ fs.length ≤ 1000 ∧ dx ≠ a ∧ h.get? a = some (PySem.W.instObj C dx) ∧
      ∃ mA, h.Ns1 dx mA ∧ (∀ f, iP (fs.lookup f) (mA f)) ∧ PySem.Within mA (fs.map (·.1))
  | .own _ => ∃ o, h.get? a = some o
  | .xd fs => ∃ mA, h.Ns1 a mA ∧ ∀ f, iP (fs.lookup f) (mA f)
  | .rng lo hi => ∃ t u v, h.get? a = some { cls := .type "range", data := .fields #[.int lo t, .int hi u, .int 1 v] }
  | .bA o u => h.get? a = some o ∧ ObjOk H h a u
  | .cz ps => h.get? a = some { cls := .none, data := .fields ps }
  | .lam ps => h.get? a = some { cls := .none, data := .fields ps }
  | .met f x => h.get? a = some (PySem.W.methodObj (.ref f) (.ref x))
  | .ext φ => φ h ∧ (∃ o, h.get? a = some o) ∧ ∀ h1 h2 : Heap, φ h1 → (∀ o, h1.get? a = some o → h2.get? a = some o) → φ h2
noncomputable def cc (H : Hp) (h : Heap) : Prop := ∀ a o, H a = some o → ObjOk P w H h a o
end
section
variable {P : Program} {w : World} {H H' : Hp} {h h' : Heap} {a : Addr} {o : HO}
theorem ObjOk.lt (x : ObjOk P w H h a o) : a < h.objs.size := by
  cases o with
  | lst xs => obtain ⟨_, _, _, _, e⟩ := x; exact Heap.lt_size e
  | tup xs => obtain ⟨_, _, _, p⟩ := x; exact p.lt
  | dK au => obtain ⟨_, _, _, _, o, _, _, e, _⟩ := x; exact Heap.lt_size e
  | dT au => obtain ⟨_, _, _, _, o, _, _, e, _⟩ := x; exact Heap.lt_size e
  | set S n => obtain ⟨o, _, _, _, e, _⟩ := x; exact Heap.lt_size e
  | ins C dx fs => obtain ⟨_, _, _, e, _⟩ := x; exact Heap.lt_size e
  | own y => obtain ⟨_, e⟩ := x; exact Heap.lt_size e
  | xd fs => obtain ⟨_, ⟨_, _, _, e, _⟩, _⟩ := x; exact Heap.lt_size e
  | rng lo hi => obtain ⟨_, _, _, e⟩ := x; exact Heap.lt_size e
  | bA ob u => obtain ⟨e, _⟩ := x; exact Heap.lt_size e
  | cz ps => exact Heap.lt_size (show h.get? a = some _ from x)
  | lam ps => exact Heap.lt_size (show h.get? a = some _ from x)
  | met f y => exact Heap.lt_size (show h.get? a = some _ from x)
  | ext φ => obtain ⟨_, ⟨_, e⟩, _⟩ := x; exact Heap.lt_size e
theorem Paired.Ak {α β : Type} {F G : α → β → Prop} : ∀ {Eu : List α} {Ew : List β}, Paired F Eu Ew → (∀ a b, F a b → G a b) → Paired G Eu Ew
  | _, _, .nil, _ => .nil
  | _, _, .cons r t, f => .cons (f _ _ r) (Paired.Ak t f)
theorem ObjOk.bO (x : ObjOk P w H h a o) (k : ∀ b u, (b = a ∨ H b = some (.own a)) → h.get? b = some u → h'.get? b = some u)
    (ho : ∀ b, H b = some (.own a) → H' b = some (.own a)) (ht : ∀ b xs, H b = some (.tup xs) → H' b = some (.tup xs)) : ObjOk P w H' h' a o := by
  induction o with
  | lst xs => obtain ⟨z, its, n, r, e⟩ := x; exact ⟨z, its, n, r, k _ _ (.inl rfl) e⟩
  | tup xs => obtain ⟨z, its, r, ob, e, c⟩ := x; exact ⟨z, its, r, ob, k _ _ (.inl rfl) e, c⟩
  | dK au => obtain ⟨z, y, vs, r, ob, es, ep, e, c⟩ := x; exact ⟨z, y, vs, r, ob, es, ep, k _ _ (.inl rfl) e, c⟩
  | dT au =>
    obtain ⟨z, y, xs, r, ob, es, ep, e, c⟩ := x
    exact ⟨z, y, xs, Paired.Ak r fun p q z => ⟨z.1, ht _ _ z.2.1, z.2.2⟩, ob, es, ep, k _ _ (.inl rfl) e, c⟩
  | set S n => obtain ⟨ob, es, ep, t, e, c⟩ := x; exact ⟨ob, es, ep, t, k _ _ (.inl rfl) e, c⟩
  | ins C dx fs =>
    obtain ⟨d, z, ne, e, mA, ⟨od, es, ep, e2, c⟩, r⟩ := x
    exact ⟨ho _ d, z, ne, k _ _ (.inl rfl) e, mA, ⟨od, es, ep, k _ _ (.inr d) e2, c⟩, r⟩
  | own y => obtain ⟨ob, e⟩ := x; exact ⟨ob, k _ _ (.inl rfl) e⟩
  | xd fs => obtain ⟨mA, ⟨od, es, ep, e, c⟩, r⟩ := x; exact ⟨mA, ⟨od, es, ep, k _ _ (.inl rfl) e, c⟩, r⟩
  | rng lo hi => obtain ⟨t, u, v, e⟩ := x; exact ⟨t, u, v, k _ _ (.inl rfl) e⟩
  | bA ob u ih => obtain ⟨e, q⟩ := x; exact ⟨k _ _ (.inl rfl) e, ih q⟩
  | cz ps =>
    have e : h.get? a = some { cls := .none, data := .fields ps } := x
    show h'.get? a = some { cls := .none, data := .fields ps }
    exact k a _ (.inl rfl) e
  | lam ps =>
    have e : h.get? a = some { cls := .none, data := .fields ps } := x
    show h'.get? a = some { cls := .none, data := .fields ps }
    exact k a _ (.inl rfl) e
  | met f y =>
    have e : h.get? a = some (PySem.W.methodObj (.ref f) (.ref y)) := x
    show h'.get? a = some (PySem.W.methodObj (.ref f) (.ref y))
    exact k a _ (.inl rfl) e
  | ext φ => obtain ⟨p, ⟨o, e⟩, st⟩ := x; exact ⟨st _ _ p fun o q => k _ _ (.inl rfl) q, ⟨o, k _ _ (.inl rfl) e⟩, st⟩
theorem cc.lt (x : cc P w H h) (e : H a = some o) : a < h.objs.size := (x a o e).lt
theorem cc.fresh (x : cc P w H h) (e : h.objs.size ≤ a) : H a = none := by
  cases q : H a with
  | none => rfl
  | some u => exact absurd (Nat.lt_of_lt_of_le (x.lt q) e) (Nat.lt_irrefl _)
theorem cc.kept (x : cc P w H h) (k : ∀ b u, h.get? b = some u → h'.get? b = some u) : cc P w H h' := fun a o e =>
  (x a o e).bO (fun b u _ q => k b u q) (fun _ q => q) fun _ _ q => q
theorem cc.laid (x : cc P w H h) (k : ∀ b u, h.get? b = some u → h'.get? b = some u) (hp : h.objs.size ≤ a) (new : ObjOk P w (upd H a o) h' a o) : cc P w (upd H a o) h' := fun b u e => by
  have hn := x.fresh hp
  by_cases hb : b = a
  · subst hb; rw [ay] at e; cases e; exact new
  · rw [ae hb] at e
    exact (x b u e).bO (fun c v _ q => k c v q) (fun c q => by rw [ae (aU q hn)]; exact q) fun c xs q => by rw [ae (aU q hn)]; exact q
end
noncomputable def Rd (H : Hp) (a : Addr) (u : HO) : Prop := H a = some u ∨ ∃ o, H a = some (.bA o u)
theorem Rd.ok {P : Program} {w : World} {H : Hp} {h : Heap} {a : Addr} {u : HO} (r : Rd H a u) (x : cc P w H h) : ObjOk P w H h a u := by
  rcases r with r | ⟨o, r⟩
  · exact x a u r
  · obtain ⟨_, q⟩ := x a _ r
    exact q
noncomputable def xH : Option HO → Prop
  | some (.lst _) => True
  | some (.dK _) => True
  | some (.dT _) => True
  | some (.set _ _) => True
  | some (.ins _ _ _) => True
  | some (.ext _) => True
  | some (.lam _) => True
  | _ => False
section
variable {P : Program} {w : World} {H : Hp} {h h' : Heap} {x e : Addr} {o' : HO}
theorem cc.write (ok : cc P w H h) (mu : xH (H x)) (he : e = x ∨ H e = some (.own x)) (k : ∀ b u, b ≠ e → h.get? b = some u → h'.get? b = some u) (uM : ∃ u, h'.get? e = some u)
    (new : ObjOk P w (upd H x o') h' x o') : cc P w (upd H x o') h' := fun b u q => by
  have Ez : ∀ c y, H c = some (.own y) → c ≠ x := fun c y r z => by subst z; rw [r] at mu; exact mu
  have KW : ∀ c xs, H c = some (.tup xs) → c ≠ x := fun c xs r z => by subst z; rw [r] at mu; exact mu
  by_cases hb : b = x
  · subst hb; rw [ay] at q; cases q; exact new
  · rw [ae hb] at q
    by_cases rP : b = e
    · have q' : H b = some (.own x) := by
        rcases he with z | z
        · exact absurd (rP.trans z) hb
        · rw [rP]; exact z
      rw [q] at q'; cases q'
      obtain ⟨v, hv⟩ := uM
      exact ⟨v, by rw [rP]; exact hv⟩
    · refine (ok b u q).bO (fun c v hc r => k c v ?_ r) (fun c r => by rw [ae (Ez c b r)]; exact r) fun c xs r => by rw [ae (KW c xs r)]; exact r
      rcases hc with rfl | hc
      · exact rP
      · rintro rfl
        rcases he with z | z
        · exact Ez c b hc z
        · rw [hc] at z; cases z; exact hb rfl
end
structure Un (fs ex : List Addr) (H H' : Hp) (h h' : Heap) : Prop where
  keep : ∀ b o, h.get? b = some o → H b = none → b ∉ fs → b ∉ ex → h'.get? b = some o
  slot : ∀ b o, h.get? b = some o → H b = none → b ∈ fs → b ∉ ex → ∃ sl, h'.get? b = some { o with slots := sl }
  free : ∀ b o, h.get? b = some o → H b = none → b ∉ ex → H' b = none
  there : ∀ b o, h.get? b = some o → b ∉ ex → ∃ o', h'.get? b = some o'
  tups : ∀ b xs, H b = some (.tup xs) → H' b = some (.tup xs)
  frzs : ∀ b o u, H b = some (.bA o u) → H' b = some (.bA o u)
  tbls : ∀ b ps, H b = some (.cz ps) → ∃ more, H' b = some (.cz (ps ++ more))
section
variable {fs Mm ex OU : List Addr} {H H1 H2 : Hp} {h h1 h2 h' : Heap} {a x e : Addr} {o : HO}
theorem Un.any (u : Un fs ex H H1 h h1) {b : Addr} {ob : Obj} (q : h.get? b = some ob) (n : H b = none) (hx : b ∉ ex) : ∃ sl, h1.get? b = some { ob with slots := sl } := by
  by_cases hb : b ∈ fs
  · exact u.slot b ob q n hb hx
  · exact ⟨ob.slots, u.keep b ob q n hb hx⟩
theorem Un.kept (k : ∀ b u, h.get? b = some u → h'.get? b = some u) : Un fs ex H H h h' :=
  ⟨fun b ob q _ _ _ => k b ob q, fun b ob q _ _ _ => ⟨ob.slots, k b ob q⟩, fun _ _ _ n _ => n, fun b ob q _ => ⟨ob, k b ob q⟩, fun _ _ q => q, fun _ _ _ q => q, fun _ ps q => ⟨#[], by rw [q]; simp⟩⟩
theorem Un.refl : Un fs ex H H h h := Un.kept fun _ _ q => q
theorem Un.laid (k : ∀ b u, h.get? b = some u → h'.get? b = some u) (hp : h.objs.size ≤ a) (hn : H a = none) : Un fs ex H (upd H a o) h h' where
  keep := fun b u q _ _ _ => k b u q
  slot := fun b u q _ _ _ => ⟨u.slots, k b u q⟩
  free := fun b u q n _ => by rw [ae (Nat.ne_of_lt (Nat.lt_of_lt_of_le (Heap.lt_size q) hp))]; exact n
  there := fun b u q _ => ⟨u, k b u q⟩
  tups := fun b xs q => by rw [ae (aU q hn)]; exact q
  frzs := fun b u xs q => by rw [ae (aU q hn)]; exact q
  tbls := fun b ps q => ⟨#[], by rw [ae (aU q hn), q]; simp⟩
theorem Un.write (mu : xH (H x)) (he : e = x ∨ H e = some (.own x)) (k : ∀ b u, b ≠ e → h.get? b = some u → h'.get? b = some u) (uM : ∃ u, h'.get? e = some u) : Un fs ex H (upd H x o) h h' := by
  have hx : ∀ b, H b = none → b ≠ x := fun b n z => by subst z; rw [n] at mu; exact mu
  have hb : ∀ b, H b = none → b ≠ e := fun b n z => by
    subst z
    rcases he with r | r
    · exact hx b n r
    · rw [n] at r; cases r
  have hm : ∀ b u, H b = some u → ¬ xH (some u) → b ≠ x := fun b u q nm z => by subst z; rw [q] at mu; exact nm mu
  refine ⟨fun b u q n _ _ => k b u (hb b n) q, fun b u q n _ _ => ⟨u.slots, k b u (hb b n) q⟩, fun b u q n _ => by rw [ae (hx b n)]; exact n, fun b u q _ => ?_,
    fun b xs q => by rw [ae (hm b _ q fun z => z)]; exact q, fun b u xs q => by rw [ae (hm b _ q fun z => z)]; exact q, fun b ps q => ⟨#[], by rw [ae (hm b _ q fun z => z), q]; simp⟩⟩
  by_cases rP : b = e
  · subst rP; exact uM
  · exact ⟨u, k b u rP q⟩
end
noncomputable def B3 (h : Heap) (H : Hp) : List Addr := (List.range h.objs.size).filter fun a => (H a).isSome
noncomputable def iQ (h : Heap) (H : Hp) : Heap := PySem.W.hideAll h (B3 h H)
theorem xI (h : Heap) (H : Hp) : (iQ h H).objs.size = h.objs.size := PySem.W.hideAll_size _ _
theorem Al {h : Heap} {H : Hp} {b : Addr} {o : Obj} (e : h.get? b = some o) (n : H b = none) : (iQ h H).get? b = some o :=
  PySem.W.hideAll_get _ e fun hm => by
    have q : (H b).isSome = true := (List.mem_filter.mp hm).2
    rw [n] at q; simp at q
theorem C3 {h : Heap} {H : Hp} {b : Addr} {o : Obj} (e : (iQ h H).get? b = some o) : h.get? b = some o ∧ H b = none := by
  have e' : h.get? b = some o := PySem.W.of_hideAll (B3 h H) e
  refine ⟨e', ?_⟩
  cases q : H b with
  | none => rfl
  | some x =>
    have hm : b ∈ B3 h H := List.mem_filter.mpr ⟨List.mem_range.mpr (Heap.lt_size e'), by simp [q]⟩
    have z : (iQ h H).get? b = none := PySem.W.hideAll_none (B3 h H) hm
    rw [z] at e; cases e
noncomputable def C4 (g h : Heap) (L : Addr) : List (Addr × Obj) := (List.range h.objs.size).filterMap fun a => if a = L ∨ (g.get? a).isSome = true then none else (h.get? a).map fun o => (a, o)
noncomputable def rest (g h : Heap) (L d : Addr) : List (Addr × Obj) := (C4 g h L).filter fun p => decide (p.1 ≠ d)
structure Mod (K : PySem.W.Frag) (mg : Str → Option Value) (base : Heap) : Prop where
  kin : K.In base
  glob : base.Ns mainGlobals mg
  blt : ∃ mb, base.Ns builtinsNs mb ∧ ∀ x : Str, x ≠ "__name__" → mb x = bootBuiltins x
  nolimit : base.NoLimit
structure Cx where
  prog : Program
  w : World
  K : PySem.W.Frag
  mg : Str → Option Value
  base : Heap
  A : Around
  N : List Str
  s₀ : Shared
  H₀ : Hp
  env : Env
  outer : List Env
  stack : List Env
  ex : List Addr
  fn : Str → Bool
  calm : Bool
  pn : List (Addr × Obj)
  xe : Value → Shared → Prop
noncomputable def dN (l : List Env) : List Addr := l.filterMap (·.frame)
noncomputable abbrev Cx.fs (X : Cx) : List Addr := dN X.outer
noncomputable def mH (sc : Scope) (x : Str) : Prop := sc.names.lookup x = some .local ∨ sc.names.lookup x = some .cell ∨ sc.names.lookup x = some .free
noncomputable def Loc (sc : Scope) (x : Str) : Prop := sc.names.lookup x = some .local ∨ sc.names.lookup x = some .cell
noncomputable def Look (env : Env) (h : Heap) (m : Str → Option Value) (x : Str) (u : Value) : Prop :=
  (env.kindOf x = some .local ∧ m x = some u) ∨ ((env.kindOf x = some .cell ∨ env.kindOf x = some .free) ∧ ∃ c, env.cells.lookup x = some c ∧ h.IsCell c (some u))
structure Cx.Ok (X : Cx) : Prop where
  mod : Mod X.K X.mg X.base
  kind : X.env.scope.kind = .function
  glob : X.env.globals = mainGlobals
  blt : X.env.builtins = builtinsNs
  above : X.s₀.heap.objs.size ≤ X.env.locals
  inj : ∀ x y c, X.env.cells.lookup x = some c → X.env.cells.lookup y = some c → x = y
  has : ∀ x, (X.env.kindOf x = some .cell ∨ X.env.kindOf x = some .free) → ∃ c, X.env.cells.lookup x = some c
  cab : ∀ x c, X.fn x = true → X.env.cells.lookup x = some c → X.s₀.heap.objs.size ≤ c
  hd : X.calm = true → X.A.handled = none
  frames : X.A.frames = some X.stack
  stk : X.stack = X.outer ∨ (X.stack = X.env :: X.outer ∧ X.env.frame = some X.env.locals)
  exf : ∀ b ∈ X.ex, b ≠ X.env.locals ∧ ∀ x c, X.env.cells.lookup x = some c → c ≠ b
  bs : ∀ b o, X.base.get? b = some o → X.s₀.heap.get? b = some o ∧ X.H₀ b = none
  bsz : X.base.objs.size ≤ X.s₀.heap.objs.size
  noex : ∀ b o, X.base.get? b = some o → b ∉ X.ex
  exfs : ∀ b ∈ X.ex, b ∉ X.fs
  funs : X.s₀.heap.FunFrames X.base X.outer
  frf : ∀ b ∈ X.fs, X.H₀ b = none
noncomputable def Gn (n : Nat) (g : Array GenState) : Prop := AllBare g ∧ n ≤ g.size
theorem Gn.self {n : Nat} {g : Array GenState} (x : Gn n g) : Gn g.size g := ⟨x.1, Nat.le_refl _⟩
theorem Gn.trans {n : Nat} {g g' : Array GenState} (x : Gn n g) (y : Gn g.size g') : Gn n g' := ⟨y.1, Nat.le_trans x.2 y.2⟩
structure Inv (X : Cx) (pins : List (Addr × Obj)) (σ : List (Option V)) (H : Hp) (s : Shared) : Prop where
  ok : X.Ok
  os : s.os = X.s₀.os
  bare : Gn X.s₀.gens.size s.gens
  base : Un X.fs X.ex X.H₀ H X.s₀.heap s.heap
  loc : ∃ m, s.heap.Ns X.env.locals m ∧ ∀ (i : Nat) (x : Str) (v : V), X.N[i]? = some x → σ[i]? = some (some v) → mH X.env.scope x → ∃ u, RelV v u ∧ Look X.env s.heap m x u
  cell : ∀ x c, X.env.cells.lookup x = some c → ∃ v, s.heap.IsCell c v
  free : H X.env.locals = none
  freeC : ∀ x c, X.env.cells.lookup x = some c → H c = none
  pin : ∀ p ∈ X.pn ++ pins, s.heap.get? p.1 = some p.2 ∧ H p.1 = none ∧ p.1 ≠ X.env.locals ∧ p.1 ∉ X.fs ∧ ∀ v, p.2.data ≠ .cell v
  hok : cc X.prog X.w H s.heap
  len : σ.length = X.N.length
section
variable {X : Cx} {pins : List (Addr × Obj)} {σ : List (Option V)} {H H' : Hp} {s : Shared} {h' : Heap}
theorem Cx.Ok.KY (ok : X.Ok) {b : Addr} {o : Obj} (e : X.base.get? b = some o) : b ∉ X.fs := fun hb => by
  have := (ok.funs.mem hb).1
  rw [e] at this; cases this
theorem Inv.bs (I : Inv X pins σ H s) : ∀ b o, X.base.get? b = some o → s.heap.get? b = some o ∧ H b = none := fun b o e =>
  ⟨I.base.keep b o (I.ok.bs b o e).1 (I.ok.bs b o e).2 (I.ok.KY e) (I.ok.noex b o e), I.base.free b o (I.ok.bs b o e).1 (I.ok.bs b o e).2 (I.ok.noex b o e)⟩
theorem Inv.bk (I : Inv X pins σ H s) : ∀ b o, X.base.get? b = some o → s.heap.get? b = some o := fun b o e => (I.bs b o e).1
theorem Inv.mod (I : Inv X pins σ H s) : Mod X.K X.mg X.base := I.ok.mod
theorem Inv.fY (I : Inv X pins σ H s) : X.K.In s.heap := I.ok.mod.kin.keeps I.bk
theorem Inv.nolimit (I : Inv X pins σ H s) : s.heap.NoLimit := I.ok.mod.nolimit.keeps I.bk
theorem Inv.lt (I : Inv X pins σ H s) : X.env.locals < s.heap.objs.size := let ⟨_, hn, _⟩ := I.loc; hn.lt
theorem Inv.sz (I : Inv X pins σ H s) : X.s₀.heap.objs.size ≤ s.heap.objs.size := Nat.le_trans I.ok.above (Nat.le_of_lt I.lt)
theorem Inv.EA (I : Inv X pins σ H s) {a : Addr} (h : s.heap.objs.size ≤ a) : a ∉ X.fs := fun hb => by
  obtain ⟨_, o, ho, _⟩ := I.ok.funs.mem hb
  exact absurd (Nat.lt_of_lt_of_le (Heap.lt_size ho) (Nat.le_trans I.sz h)) (Nat.lt_irrefl _)
theorem Inv.pZ (I : Inv X pins σ H s) : ∀ x c, X.env.cells.lookup x = some c → c ≠ X.env.locals := fun x c e z => by
  obtain ⟨v, o, ho, hd⟩ := I.cell x c e
  obtain ⟨m, ⟨o', es, ep, gz, jr, _⟩, _⟩ := I.loc
  rw [z, gz] at ho; cases ho; rw [jr] at hd; cases hd
theorem Inv.funs (I : Inv X pins σ H s) : s.heap.FunFrames X.base X.outer := by
  have all : ∀ (l : List Env), (∀ b ∈ dN l, b ∈ X.fs) → X.s₀.heap.FunFrames X.base l → s.heap.FunFrames X.base l := by
    intro l
    induction l with
    | nil => intro _ _; trivial
    | cons env r ih =>
      intro hs hl
      obtain ⟨hk, ⟨L, o, hf, hn, ho, hd⟩, hr⟩ := hl
      have hL : L ∈ X.fs := hs L (by unfold dN; rw [List.filterMap_cons, hf]; exact List.mem_cons_self)
      obtain ⟨sl, e⟩ := I.base.slot L o ho (I.ok.frf L hL) hL fun z => I.ok.exfs L z hL
      exact ⟨hk, ⟨L, _, hf, hn, e, hd⟩, ih (fun b hb => hs b (by unfold dN; rw [List.filterMap_cons, hf]; exact List.mem_cons_of_mem _ hb)) hr⟩
  exact all X.outer (fun _ hb => hb) I.ok.funs
theorem Inv.stack (I : Inv X pins σ H s) : s.heap.FunFrames X.base X.stack := by
  rcases I.ok.stk with e | ⟨e, hf⟩
  · rw [e]; exact I.funs
  · rw [e]
    obtain ⟨m, hn, _⟩ := I.loc
    refine .cons (by rw [I.ok.kind]; decide) hf hn ?_ I.funs
    exact Heap.get?_none_of_le (Nat.le_trans I.ok.bsz I.ok.above)
theorem Inv.eB (I : Inv X pins σ H s) : ∀ b ∈ dN X.stack, b ∈ X.env.locals :: X.fs := fun b hb => by
  rcases I.ok.stk with e | ⟨e, hf⟩
  · rw [e] at hb; exact List.mem_cons_of_mem _ hb
  · rw [e] at hb
    unfold dN at hb
    rw [List.filterMap_cons, hf] at hb
    exact hb
theorem Inv.jM (I : Inv X pins σ H s) : ∀ b ∈ dN X.stack, H b = none := fun b hb => by
  rcases List.mem_cons.mp (I.eB b hb) with e | hb
  · rw [e]; exact I.free
  · obtain ⟨_, o, ho, _⟩ := I.ok.funs.mem hb
    exact I.base.free b o ho (I.ok.frf b hb) fun z => I.ok.exfs b z hb
theorem Inv.step {g' : Array GenState} {t' : Nat} {d' : Drawn} {ch : List Addr} (I : Inv X pins σ H s)
    (mI : ∀ b ∈ ch, (b ∈ X.ex ∨ X.s₀.heap.objs.size ≤ b) ∧ b ≠ X.env.locals ∧ (∀ x c, X.env.cells.lookup x = some c → c ≠ b) ∧ ∀ p ∈ X.pn ++ pins, p.1 ≠ b)
    (keep : ∀ b o, b ≠ X.env.locals → b ∉ X.fs → b ∉ ch → s.heap.get? b = some o → H b = none → h'.get? b = some o)
    (slot : ∀ b o, b ≠ X.env.locals → b ∈ X.fs → b ∉ ch → s.heap.get? b = some o → H b = none → ∃ sl, h'.get? b = some { o with slots := sl }) (free : ∀ b o, b ∉ ch → s.heap.get? b = some o → H b = none → H' b = none)
    (there : ∀ b o, b ∉ ch → s.heap.get? b = some o → ∃ o', h'.get? b = some o')
    (tups : ∀ b xs, H b = some (.tup xs) → H' b = some (.tup xs)) (frzs : ∀ b o u, H b = some (.bA o u) → H' b = some (.bA o u)) (tbls : ∀ b ps, H b = some (.cz ps) → ∃ more, H' b = some (.cz (ps ++ more)))
    (ns : ∀ m, s.heap.Ns X.env.locals m → h'.Ns X.env.locals m) (hok : cc X.prog X.w H' h') (hg : Gn s.gens.size g') :
    Inv X pins σ H' { s with heap := h', gens := g', drawn := d', toks := t' } := by
  have JK : ∀ b o, X.s₀.heap.get? b = some o → b ≠ X.env.locals := fun b o e => Nat.ne_of_lt (Nat.lt_of_lt_of_le (Heap.lt_size e) I.ok.above)
  have B4 : ∀ b o, X.s₀.heap.get? b = some o → b ∉ X.ex → b ∉ ch := fun b o e hx hb => by
    rcases (mI b hb).1 with z | z
    · exact hx z
    · exact absurd (Nat.lt_of_lt_of_le (Heap.lt_size e) z) (Nat.lt_irrefl _)
  have cellK : ∀ x c, X.env.cells.lookup x = some c → ∀ v, s.heap.IsCell c v → h'.IsCell c v := fun x c e v ⟨o, ho, hd⟩ => by
    have xJ : c ∉ ch := fun z => (mI c z).2.2.1 x c e rfl
    by_cases hc : c ∈ X.fs
    · obtain ⟨sl, q⟩ := slot c o (I.pZ x c e) hc xJ ho (I.freeC x c e)
      exact ⟨_, q, hd⟩
    · exact ⟨o, keep c o (I.pZ x c e) hc xJ ho (I.freeC x c e), hd⟩
  refine ⟨I.ok, I.os, I.bare.trans hg, ⟨fun b o e n hb hx => ?_, fun b o e n hb hx => ?_, fun b o e n hx => ?_, fun b o e hx => ?_, fun b xs e => tups b xs (I.base.tups b xs e), fun b o xs e => frzs b o xs (I.base.frzs b o xs e), fun b ps e => ?_⟩, ?_, fun x c e => ?_, ?_, fun x c e => ?_, fun p hp => ?_, hok, I.len⟩
  · exact keep b o (JK b o e) hb (B4 b o e hx) (I.base.keep b o e n hb hx) (I.base.free b o e n hx)
  · obtain ⟨sl, e1⟩ := I.base.slot b o e n hb hx
    obtain ⟨JL, e2⟩ := slot b _ (JK b o e) hb (B4 b o e hx) e1 (I.base.free b o e n hx)
    exact ⟨JL, e2⟩
  · obtain ⟨o', e1⟩ := I.base.there b o e hx
    exact free b o' (B4 b o e hx) e1 (I.base.free b o e n hx)
  · obtain ⟨o', e1⟩ := I.base.there b o e hx
    exact there b o' (B4 b o e hx) e1
  · obtain ⟨m1, e1⟩ := I.base.tbls b ps e
    obtain ⟨m2, e2⟩ := tbls b _ e1
    exact ⟨m1 ++ m2, by rw [e2, Array.append_assoc]⟩
  · obtain ⟨m, hn, hl⟩ := I.loc
    refine ⟨m, ns m hn, fun i x v e1 e2 e3 => ?_⟩
    obtain ⟨u, r, l⟩ := hl i x v e1 e2 e3
    refine ⟨u, r, ?_⟩
    rcases l with l | ⟨k, c, e, z⟩
    · exact .inl l
    · exact .inr ⟨k, c, e, cellK x c e _ z⟩
  · obtain ⟨v, z⟩ := I.cell x c e
    exact ⟨v, cellK x c e v z⟩
  · obtain ⟨m, ⟨o, _, _, ho, _⟩, _⟩ := I.loc
    exact free _ o (fun z => (mI _ z).2.1 rfl) ho I.free
  · obtain ⟨v, o, ho, hd⟩ := I.cell x c e
    exact free c o (fun z => (mI c z).2.2.1 x c e rfl) ho (I.freeC x c e)
  · obtain ⟨e, n, ne, nf, d⟩ := I.pin p hp
    have xJ : p.1 ∉ ch := fun z => (mI p.1 z).2.2.2 p hp rfl
    exact ⟨keep p.1 p.2 ne nf xJ e n, free p.1 p.2 xJ e n, ne, nf, d⟩
theorem Inv.un {t' : Nat} (I : Inv X pins σ H s) (u : Un X.fs [] H H' s.heap h') (hok : cc X.prog X.w H' h') : Inv X pins σ H' { s with heap := h', toks := t' } := by
  obtain ⟨m, ⟨o, es, ep, ho, r⟩, _⟩ := id I.loc
  obtain ⟨sl, hL⟩ := u.any ho I.free (by simp)
  exact I.step (g' := s.gens) (d' := s.drawn) (ch := []) (fun _ z => nomatch z) (fun b o _ hb _ e n => u.keep b o e n hb (by simp)) (fun b o _ hb _ e n => u.slot b o e n hb (by simp)) (fun b o _ e n => u.free b o e n (by simp)) (fun b o _ e => u.there b o e (by simp)) u.tups u.frzs u.tbls (fun m' hm => by
    obtain ⟨o', gU, EB, gz, r'⟩ := hm
    rw [ho] at gz; cases gz
    exact ⟨_, gU, EB, hL, r'⟩) hok I.bare.self
theorem Inv.call {g' : Array GenState} {t' : Nat} {d' : Drawn} {ch : List Addr} (I : Inv X pins σ H s) (u : Un (dN X.stack) ch H H' s.heap h') (hok : cc X.prog X.w H' h') (hg : Gn s.gens.size g')
    (mI : ∀ b ∈ ch, (b ∈ X.ex ∨ X.s₀.heap.objs.size ≤ b) ∧ b ≠ X.env.locals ∧ (∀ x c, X.env.cells.lookup x = some c → c ≠ b) ∧ ∀ p ∈ X.pn ++ pins, p.1 ≠ b) :
    Inv X pins σ H' { s with heap := h', gens := g', drawn := d', toks := t' } := by
  obtain ⟨m, ⟨o, es, ep, ho, r⟩, _⟩ := id I.loc
  obtain ⟨sl, hL⟩ := u.any ho I.free fun z => (mI _ z).2.1 rfl
  exact I.step (ch := ch) mI (fun b o hL hb hc e n => u.keep b o e n (fun z => (List.mem_cons.mp (I.eB b z)).elim hL hb) hc) (fun b o _ _ hc e n => u.any e n hc) (fun b o hc e n => u.free b o e n hc) (fun b o hc e => u.there b o e hc) u.tups u.frzs u.tbls (fun m' hm => by
    obtain ⟨o', gU, EB, gz, r'⟩ := hm
    rw [ho] at gz; cases gz
    exact ⟨_, gU, EB, hL, r'⟩) hok hg
theorem Inv.turned {t' : Nat} {it : Addr} (I : Inv X pins σ H s) (k : ∀ b o, b ≠ it → s.heap.get? b = some o → h'.get? b = some o) (hn : H it = none) (hL : it ≠ X.env.locals)
    (h1 : it ∈ X.ex ∨ X.s₀.heap.objs.size ≤ it) (h2 : ∀ x c, X.env.cells.lookup x = some c → c ≠ it) (h3 : ∀ p ∈ X.pn ++ pins, p.1 ≠ it) : Inv X pins σ H { s with heap := h', toks := t' } := by
  have xK : ∀ b u, H b = some u → b ≠ it := fun b u e z => by rw [z, hn] at e; cases e
  refine I.step (g' := s.gens) (d' := s.drawn) (ch := [it]) (fun b hb => ?_) (fun b o _ _ hc e _ => k b o (fun z => hc (by simp [z])) e) (fun b o _ _ hc e _ => ⟨o.slots, k b o (fun z => hc (by simp [z])) e⟩) (fun _ _ _ _ n => n)
    (fun b o hc e => ⟨o, k b o (fun z => hc (by simp [z])) e⟩) (fun _ _ e => e) (fun _ _ _ e => e) (fun b ps e => ⟨#[], by rw [e]; simp⟩) (fun m hm => ?_) (fun b u e => ?_) I.bare.self
  · have e : b = it := by simpa using hb
    subst e
    exact ⟨h1, hL, h2, h3⟩
  · obtain ⟨o, es, ep, ho, r⟩ := hm
    exact ⟨o, es, ep, k _ o (Ne.symm hL) ho, r⟩
  · refine (I.hok b u e).bO (fun c v hc q => k c v ?_ q) (fun _ q => q) fun _ _ q => q
    rcases hc with z | z
    · rw [z]; exact xK b u e
    · exact xK c _ z
theorem Inv.tok (I : Inv X pins σ H s) (t : Nat) : Inv X pins σ H { s with toks := t } := I.un (h' := s.heap) (t' := t) Un.refl I.hok
theorem Inv.kept {t' : Nat} (I : Inv X pins σ H s) (k : ∀ b u, s.heap.get? b = some u → h'.get? b = some u) : Inv X pins σ H { s with heap := h', toks := t' } := I.un (Un.kept k) (I.hok.kept k)
theorem Inv.laid {a : Addr} {o : HO} {t' : Nat} (I : Inv X pins σ H s) (k : ∀ b u, s.heap.get? b = some u → h'.get? b = some u) (hp : s.heap.objs.size ≤ a) (new : ObjOk X.prog X.w (upd H a o) h' a o) :
    Inv X pins σ (upd H a o) { s with heap := h', toks := t' } := I.un (Un.laid k hp (I.hok.fresh hp)) (I.hok.laid k hp new)
theorem Inv.write {x e : Addr} {o : HO} {t' : Nat} (I : Inv X pins σ H s) (mu : xH (H x)) (he : e = x ∨ H e = some (.own x)) (k : ∀ b u, b ≠ e → s.heap.get? b = some u → h'.get? b = some u) (uM : ∃ u, h'.get? e = some u)
    (new : ObjOk X.prog X.w (upd H x o) h' x o) : Inv X pins σ (upd H x o) { s with heap := h', toks := t' } := I.un (Un.write mu he k uM) (I.hok.write mu he k uM new)
theorem Inv.o9 {pins' : List (Addr × Obj)} (I : Inv X pins σ H s) (h : ∀ p ∈ pins', s.heap.get? p.1 = some p.2 ∧ H p.1 = none ∧ p.1 ≠ X.env.locals ∧ p.1 ∉ X.fs ∧ ∀ v, p.2.data ≠ .cell v) : Inv X pins' σ H s :=
  ⟨I.ok, I.os, I.bare, I.base, I.loc, I.cell, I.free, I.freeC, fun p hp => (List.mem_append.mp hp).elim (fun z => I.pin p (List.mem_append_left _ z)) (h p), I.hok, I.len⟩
theorem rQ {N : List Str} (hN : N.Nodup) {i j : Nat} {x : Str} (a : N[i]? = some x) (b : N[j]? = some x) : i = j := by
  obtain ⟨h1, e1⟩ := List.getElem?_eq_some_iff.mp a
  obtain ⟨h2, e2⟩ := List.getElem?_eq_some_iff.mp b
  exact (List.getElem_inj hN).mp (e1.trans e2.symm)
theorem store_ok2 {M : Model} {A : Around} {E : Value → Shared → Prop} {i : Nat} {x : Str} {v : V} {u : Value} {Q : Unit → Shared → Prop} (I : Inv X pins σ H s) (hN : X.N.Nodup) (hi : X.N[i]? = some x) (hx : Loc X.env.scope x) (r : RelV v u)
    (h : ∀ s', Inv X pins (σ.set i (some v)) H s' → (∃ a, Heap.SameBut a s.heap s'.heap ∧ (a = X.env.locals ∨ X.env.cells.lookup x = some a)) → Q () s') (hf : X.fn x = true ∨ X.env.scope.names.lookup x = some .local := by first | exact .inl rfl | exact .inr rfl | assumption) : wpAny M A (storeName X.env x u) Q E s := by
  obtain ⟨m, hn, hl⟩ := id I.loc
  have KZ : (X.env.scope.kind == .class || (X.env.scope.kind == .module && X.env.locals != X.env.globals)) = false := by rw [I.ok.kind]; rfl
  have EC : i < σ.length := by rw [I.len]; exact (List.getElem?_eq_some_iff.mp hi).1
  have pZ := I.pZ
  have tracked : ∀ {a : Addr} {h' : Heap}, (∃ o, s.heap.get? a = some o ∧ H a = none) → Heap.SameBut a s.heap h' → cc X.prog X.w H h' := fun {a h'} ha hs b ob e => by
    obtain ⟨_, _, lZ⟩ := ha
    refine (I.hok b ob e).bO (fun c w' hc q => (hs.2 c ?_).trans q) (fun _ q => q) fun _ _ q => q
    rintro rfl
    rcases hc with rfl | hc
    · rw [lZ] at e; cases e
    · rw [lZ] at hc; cases hc
  rcases hx with hk | hk
  · refine wpAny_storeName_local hk hn (fun h' xM hs => ?_) KZ
    obtain ⟨oL, _, _, xN, _⟩ := id hn
    refine h _ ⟨I.ok, I.os, I.bare, ⟨fun b o e n hb hx => ?_, fun b o e n hb hx => ?_, I.base.free, fun b o e hx => ?_, I.base.tups, I.base.frzs, I.base.tbls⟩, ⟨_, xM, fun j y v' e1 e2 e3 => ?_⟩, fun y c e => ?_, I.free, I.freeC, fun p hp => ?_, tracked ⟨oL, xN, I.free⟩ hs, by simpa using I.len⟩ ⟨_, hs, .inl rfl⟩
    · exact (hs.2 b (Nat.ne_of_lt (Nat.lt_of_lt_of_le (Heap.lt_size e) I.ok.above))).trans (I.base.keep b o e n hb hx)
    · obtain ⟨sl, e1⟩ := I.base.slot b o e n hb hx
      exact ⟨sl, (hs.2 b (Nat.ne_of_lt (Nat.lt_of_lt_of_le (Heap.lt_size e) I.ok.above))).trans e1⟩
    · obtain ⟨o', e1⟩ := I.base.there b o e hx
      exact ⟨o', (hs.2 b (Nat.ne_of_lt (Nat.lt_of_lt_of_le (Heap.lt_size e) I.ok.above))).trans e1⟩
    · by_cases hj : j = i
      · subst hj
        rw [hi] at e1; cases e1
        rw [List.getElem?_set_self EC] at e2
        cases e2
        exact ⟨u, r, .inl ⟨hk, by simp⟩⟩
      · rw [List.getElem?_set_ne (Ne.symm hj)] at e2
        obtain ⟨u', r', q⟩ := hl j y v' e1 e2 e3
        refine ⟨u', r', ?_⟩
        rcases q with ⟨k, e⟩ | ⟨k, c, e, z⟩
        · refine .inl ⟨k, ?_⟩
          have : y ≠ x := fun e => hj (rQ hN e1 (e ▸ hi))
          simp [this, e]
        · exact .inr ⟨k, c, e, z.sameBut hs (pZ y c e)⟩
    · obtain ⟨w', z⟩ := I.cell y c e
      exact ⟨w', z.sameBut hs (pZ y c e)⟩
    · obtain ⟨e, n, ne, nf, d⟩ := I.pin p hp
      exact ⟨(hs.2 p.1 ne).trans e, n, ne, nf, d⟩
  · have nO : X.fn x = true := by
      rcases hf with z | z
      · exact z
      · rw [z] at hk; cases hk
    obtain ⟨c, hc⟩ := I.ok.has x (.inl hk)
    obtain ⟨w', z⟩ := I.cell x c hc
    refine wpAny_storeName_cell I.ok.kind hk hc z (fun h' B5 hs => ?_)
    obtain ⟨oc, p0, K0⟩ := id z
    refine h { s with heap := h' } ⟨I.ok, I.os, I.bare, ⟨fun b o e n hb hx => ?_, fun b o e n hb hx => ?_, I.base.free, fun b o e hx => ?_, I.base.tups, I.base.frzs, I.base.tbls⟩, ⟨m, hn.sameBut hs (Ne.symm (pZ x c hc)), fun j y v' e1 e2 e3 => ?_⟩, fun y c' e => ?_, I.free, I.freeC, fun p hp => ?_, tracked ⟨oc, p0, I.freeC x c hc⟩ hs, by simpa using I.len⟩ ⟨c, hs, .inr hc⟩
    · exact (hs.2 b (Nat.ne_of_lt (Nat.lt_of_lt_of_le (Heap.lt_size e) (I.ok.cab x c nO hc)))).trans (I.base.keep b o e n hb hx)
    · obtain ⟨sl, e1⟩ := I.base.slot b o e n hb hx
      exact ⟨sl, (hs.2 b (Nat.ne_of_lt (Nat.lt_of_lt_of_le (Heap.lt_size e) (I.ok.cab x c nO hc)))).trans e1⟩
    · obtain ⟨o', e1⟩ := I.base.there b o e hx
      exact ⟨o', (hs.2 b (Nat.ne_of_lt (Nat.lt_of_lt_of_le (Heap.lt_size e) (I.ok.cab x c nO hc)))).trans e1⟩
    · by_cases hj : j = i
      · subst hj
        rw [hi] at e1; cases e1
        rw [List.getElem?_set_self EC] at e2
        cases e2
        exact ⟨u, r, .inr ⟨.inl hk, c, hc, B5⟩⟩
      · rw [List.getElem?_set_ne (Ne.symm hj)] at e2
        obtain ⟨u', r', q⟩ := hl j y v' e1 e2 e3
        refine ⟨u', r', ?_⟩
        rcases q with q | ⟨k, c', e, z'⟩
        · exact .inl q
        · refine .inr ⟨k, c', e, z'.sameBut hs ?_⟩
          rintro rfl
          exact hj (rQ hN e1 (I.ok.inj _ _ _ e hc ▸ hi))
    · by_cases JM : c' = c
      · subst JM; exact ⟨_, B5⟩
      · obtain ⟨w2, z2⟩ := I.cell y c' e
        exact ⟨w2, z2.sameBut hs JM⟩
    · obtain ⟨e, n, ne, nf, d⟩ := I.pin p hp
      refine ⟨(hs.2 p.1 ?_).trans e, n, ne, nf, d⟩
      intro q
      rw [q, p0] at e
      have q' : oc = p.2 := Option.some.inj e
      exact d w' (by rw [← q']; exact K0)
theorem rR {M : Model} {A : Around} {E : Value → Shared → Prop} {i : Nat} {x : Str} {v : V} {u : Value} {Q : Unit → Shared → Prop} (I : Inv X pins σ H s) (hN : X.N.Nodup) (hi : X.N[i]? = some x) (hx : Loc X.env.scope x) (r : RelV v u)
    (h : ∀ s', Inv X pins (σ.set i (some v)) H s' → Q () s') (hf : X.fn x = true ∨ X.env.scope.names.lookup x = some .local := by first | exact .inl rfl | exact .inr rfl | assumption) : wpAny M A (storeName X.env x u) Q E s :=
  store_ok2 I hN hi hx r (fun s' I' _ => h s' I') hf
theorem Inv.nQ {s' : Shared} {ch : List Addr} (I : Inv X pins σ H s) (ho : s'.os = s.os) (u : Un (dN X.stack) ch H H' s.heap s'.heap) (hok : cc X.prog X.w H' s'.heap) (hg : Gn s.gens.size s'.gens)
    (mI : ∀ b ∈ ch, (b ∈ X.ex ∨ X.s₀.heap.objs.size ≤ b) ∧ b ≠ X.env.locals ∧ (∀ x c, X.env.cells.lookup x = some c → c ≠ b) ∧ ∀ p ∈ X.pn ++ pins, p.1 ≠ b) : Inv X pins σ H' s' := by
  obtain ⟨h', g', d', t', o'⟩ := s'
  have e : o' = s.os := ho
  subst e
  exact I.call (g' := g') (t' := t') (d' := d') u hok hg mI
end
noncomputable abbrev XK := Value → Option Addr → Hp → Prop
noncomputable abbrev St := List (Option V)
noncomputable abbrev VK := V → Hp → Prop
noncomputable abbrev TE := St → Hp → VK → Prop
noncomputable abbrev TT := St → Hp → (Bool → Hp → Prop) → Prop
noncomputable abbrev TA := St → Hp → (List V → Hp → Prop) → Prop
structure Ends where
  nx : St → Hp → Prop
  rt : VK
  bk : St → Hp → Prop := fun _ _ => False
  ct : St → Hp → Prop := fun _ _ => False
noncomputable abbrev TS := Ends → St → Hp → Prop
noncomputable def EP (X : Cx) (pins : List (Addr × Obj)) (σ : St) (Q : VK) (u : Value) (s' : Shared) : Prop := ∃ v H', Inv X pins σ H' s' ∧ RelV v u ∧ Q v H'
noncomputable def TP (X : Cx) (pins : List (Addr × Obj)) (σ : St) (Q : Bool → Hp → Prop) (b : Bool) (s' : Shared) : Prop := ∃ H', Inv X pins σ H' s' ∧ Q b H'
noncomputable def AP (X : Cx) (pins : List (Addr × Obj)) (σ : St) (Q : List V → Hp → Prop) (us : List Value) (s' : Shared) : Prop := ∃ vs H', Inv X pins σ H' s' ∧ Vals vs us ∧ Q vs H'
noncomputable def SP (X : Cx) (pins : List (Addr × Obj)) (D : Ends) (f : Flow) (s' : Shared) : Prop :=
  match f with
  | .next => ∃ aH H', Inv X pins aH H' s' ∧ D.nx aH H'
  | .brk => ∃ aH H', Inv X pins aH H' s' ∧ D.bk aH H'
  | .cont => ∃ aH H', Inv X pins aH H' s' ∧ D.ct aH H'
  | .ret u => ∃ v aH H', Inv X pins aH H' s' ∧ RelV v u ∧ D.rt v H'
structure PE (X : Cx) (e : Expr) (t : TE) : Prop where
  run : ∀ (pins : List (Addr × Obj)) (s : Shared) (σ : St) (H : Hp) (Q : VK), Inv X pins σ H s → t σ H Q → wpAny (model X.prog X.w) X.A (eval e X.env) (EP X pins σ Q) X.xe s
instance {X : Cx} {e : Expr} {t : TE} : CoeFun (PE X e t) (fun _ => ∀ (pins : List (Addr × Obj)) (s : Shared) (σ : St) (H : Hp) (Q : VK), Inv X pins σ H s → t σ H Q → wpAny (model X.prog X.w) X.A (eval e X.env) (EP X pins σ Q) X.xe s) := ⟨PE.run⟩
structure PT (X : Cx) (e : Expr) (t : TT) : Prop where
  run : ∀ (pins : List (Addr × Obj)) (s : Shared) (σ : St) (H : Hp) (Q : Bool → Hp → Prop), Inv X pins σ H s → t σ H Q → wpAny (model X.prog X.w) X.A (isTrue e X.env (eval e X.env)) (TP X pins σ Q) X.xe s
instance {X : Cx} {e : Expr} {t : TT} : CoeFun (PT X e t) (fun _ => ∀ (pins : List (Addr × Obj)) (s : Shared) (σ : St) (H : Hp) (Q : Bool → Hp → Prop), Inv X pins σ H s → t σ H Q → wpAny (model X.prog X.w) X.A (isTrue e X.env (eval e X.env)) (TP X pins σ Q) X.xe s) := ⟨PT.run⟩
noncomputable def PW (X : Cx) (e : Expr) (t : TT) : Prop :=
  ∀ (whole : Sem Value) (pins : List (Addr × Obj)) (s : Shared) (σ : St) (H : Hp) (Q : Bool → Hp → Prop), Inv X pins σ H s → t σ H Q → wpAny (model X.prog X.w) X.A (isTrue e X.env whole) (TP X pins σ Q) X.xe s
theorem PW.pt {X : Cx} {e : Expr} {t : TT} (h : PW X e t) : PT X e t := ⟨h _⟩
structure PA (X : Cx) (es : List Expr) (t : TA) : Prop where
  run : ∀ (pos : Pos) (pins : List (Addr × Obj)) (s : Shared) (σ : St) (H : Hp) (Q : List V → Hp → Prop), Inv X pins σ H s → t σ H Q → wpAny (model X.prog X.w) X.A (spliced (backTo pos (starEach es X.env))) (AP X pins σ Q) X.xe s
instance {X : Cx} {es : List Expr} {t : TA} : CoeFun (PA X es t) (fun _ => ∀ (pos : Pos) (pins : List (Addr × Obj)) (s : Shared) (σ : St) (H : Hp) (Q : List V → Hp → Prop), Inv X pins σ H s → t σ H Q → wpAny (model X.prog X.w) X.A (spliced (backTo pos (starEach es X.env))) (AP X pins σ Q) X.xe s) := ⟨PA.run⟩
structure PS (X : Cx) (st : Stmt) (t : TS) : Prop where
  run : ∀ (pins : List (Addr × Obj)) (s : Shared) (σ : St) (H : Hp) (D : Ends), Inv X pins σ H s → t D σ H → wpAny (model X.prog X.w) X.A (exec st X.env) (SP X pins D) X.xe s
instance {X : Cx} {st : Stmt} {t : TS} : CoeFun (PS X st t) (fun _ => ∀ (pins : List (Addr × Obj)) (s : Shared) (σ : St) (H : Hp) (D : Ends), Inv X pins σ H s → t D σ H → wpAny (model X.prog X.w) X.A (exec st X.env) (SP X pins D) X.xe s) := ⟨PS.run⟩
structure fQ (X : Cx) (st : List Stmt) (t : TS) : Prop where
  run : ∀ (pins : List (Addr × Obj)) (s : Shared) (σ : St) (H : Hp) (D : Ends), Inv X pins σ H s → t D σ H → wpAny (model X.prog X.w) X.A (execs st X.env) (SP X pins D) X.xe s
instance {X : Cx} {st : List Stmt} {t : TS} : CoeFun (fQ X st t) (fun _ => ∀ (pins : List (Addr × Obj)) (s : Shared) (σ : St) (H : Hp) (D : Ends), Inv X pins σ H s → t D σ H → wpAny (model X.prog X.w) X.A (execs st X.env) (SP X pins D) X.xe s) := ⟨fQ.run⟩
theorem thn {α : Type} {t : Sem α} {Q Q' : α → Shared → Prop} {M : Model} {A : Around} {E : Value → Shared → Prop} {s : Shared} (h : wpAny M A t Q E s) (hQ : ∀ a s, Q a s → Q' a s) : wpAny M A t Q' E s := wpAny_mono h hQ fun _ _ x => x
section
variable {X : Cx}
theorem bin {a b : Expr} {ta tb : TE} (ha : PE X a ta) (hb : PE X b tb) {pins : List (Addr × Obj)} {s : Shared} {σ : St} {H : Hp} {R : V → V → Hp → Prop} (I : Inv X pins σ H s) (h : ta σ H fun x H1 => tb σ H1 fun y H2 => R x y H2)
    {α : Type} {Q : α → Shared → Prop} {f : Value → Value → Sem α}
    (hf : ∀ v u s2 x y H2, Inv X pins σ H2 s2 → RelV x v → RelV y u → R x y H2 → wpAny (model X.prog X.w) X.A (f v u) Q X.xe s2) :
    wpAny (model X.prog X.w) X.A (eval a X.env) (fun v az => wpAny (model X.prog X.w) X.A (eval b X.env) (fun u gF => wpAny (model X.prog X.w) X.A (f v u) Q X.xe gF) X.xe az) X.xe s := by
  refine thn (ha pins s σ H _ I h) fun v s1 ⟨x, H1, I1, r1, q1⟩ => ?_
  refine thn (hb pins s1 σ H1 _ I1 q1) fun u s2 ⟨y, H2, I2, r2, q2⟩ => ?_
  exact hf v u s2 x y H2 I2 r1 r2 q2
noncomputable def ED (i : Nat) : TE := fun σ H Q => ∃ v, σ[i]? = some (some v) ∧ Q v H
noncomputable def tC (v : V) : TE := fun _ H Q => Q v H
theorem rS {i : Nat} {x : Str} {pos : Pos} (hN : X.N[i]? = some x) (hv : mH X.env.scope x) (hd : (x == ("__debug__" : Str)) = false := by decide) (dA : (x == ("__classdict__" : Str)) = false := by decide) : PE X (.Name x pos) (ED i) := by
  refine ⟨?_⟩
  intro pins s σ H Q I h
  obtain ⟨v, e, h⟩ := h
  obtain ⟨m, hn, hl⟩ := I.loc
  obtain ⟨u, r, l⟩ := hl i x v hN e hv
  have fin : EP X pins σ Q u s := ⟨v, H, I, r, h⟩
  rcases l with ⟨hk, hm⟩ | ⟨hk, c, hc, rD⟩
  · exact wpAny_Name (wpAny_loadName_local I.ok.kind hk hn hm fin) hd
  · rcases hk with hk | hk
    · exact wpAny_Name (wpAny_loadName_cell I.ok.kind hk hc rD fin) hd
    · exact wpAny_Name (wpAny_loadName_free I.ok.kind hk hc rD fin dA) hd
theorem EE {i j pos} : PE X (.Constant (.int i) j pos) (tC (.int i)) := ⟨fun _ _ _ H _ I h => wpAny_Constant_int ⟨.int i, H, I.tok _, ⟨_, rfl⟩, h⟩⟩
theorem Ik {b j pos} : PE X (.Constant (.bool b) j pos) (tC (.bl b)) := ⟨fun _ _ _ H _ I h => Constant_bool ⟨.bl b, H, I, rfl, h⟩⟩
theorem EF {j pos} : PE X (.Constant .none j pos) (tC .aq) := ⟨fun _ _ _ H _ I h => Constant_none ⟨.aq, H, I, rfl, h⟩⟩
theorem EG {x j pos} : PE X (.Constant (.str x) j pos) (tC (.str x)) := ⟨fun _ _ _ H _ I h => Calls.Constant_str ⟨.str x, H, I.tok _, ⟨_, rfl⟩, h⟩⟩
noncomputable def Gl (X : Cx) (x : Str) : Prop := X.env.kindOf x = some .globalImplicit
theorem l0 {E : Value → Shared → Prop} {pins : List (Addr × Obj)} {s : Shared} {σ : St} {H : Hp} {x : Str} {u : Value} {pos : Pos} {Q : Value → Shared → Prop} (I : Inv X pins σ H s) (hg : Gl X x) (hm : X.mg x = some u) (h : Q u s)
    (hd : (x == ("__debug__" : Str)) = false := by decide) : wpAny (model X.prog X.w) X.A (eval (.Name x pos) X.env) Q E s :=
  Calls.Name_function_global I.ok.kind hg (Calls.loadGlobal_global (by rw [I.ok.glob]; exact I.mod.glob.keeps I.bk) hm h) hd
theorem fZ {E : Value → Shared → Prop} {pins : List (Addr × Obj)} {s : Shared} {σ : St} {H : Hp} {x : Str} {u : Value} {pos : Pos} {Q : Value → Shared → Prop} (I : Inv X pins σ H s) (hg : Gl X x) (hm : X.mg x = none) (hv : bootBuiltins x = some u) (h : Q u s)
    (hn : x ≠ "__name__" := by decide) (hd : (x == ("__debug__" : Str)) = false := by decide) : wpAny (model X.prog X.w) X.A (eval (.Name x pos) X.env) Q E s := by
  obtain ⟨mb, h1, h2⟩ := I.mod.blt
  exact Calls.Name_function_global I.ok.kind hg (Calls.loadGlobal_builtin (by rw [I.ok.glob]; exact I.mod.glob.keeps I.bk) hm (by rw [I.ok.blt]; exact h1.keeps I.bk) ((h2 x hn).trans hv) h) hd
theorem uN {x : Str} {v : V} {u : Value} {pos : Pos} (hg : Gl X x) (hm : X.mg x = some u) (r : RelV v u) (hd : (x == ("__debug__" : Str)) = false := by decide) : PE X (.Name x pos) (tC v) := ⟨fun _ _ _ H _ I h => l0 I hg hm ⟨v, H, I, r, h⟩ hd⟩
theorem C5 {x : Str} {v : V} {u : Value} {pos : Pos} (hg : Gl X x) (hm : X.mg x = none) (hv : bootBuiltins x = some u) (r : RelV v u) (hn : x ≠ "__name__" := by decide) (hd : (x == ("__debug__" : Str)) = false := by decide) : PE X (.Name x pos) (tC v) := ⟨fun _ _ _ H _ I h => fZ I hg hm hv ⟨v, H, I, r, h⟩ hn hd⟩
variable {a b : Expr} {ta tb : TE} {pos : Pos}
noncomputable def PC (X : Cx) (op : CmpOp) (a b : Expr) (t : TE) : Prop :=
  ∀ (pins : List (Addr × Obj)) (s : Shared) (σ : St) (H : Hp) (Q : VK), Inv X pins σ H s → t σ H Q →
    wpAny (model X.prog X.w) X.A (eval a X.env) (fun v az => wpAny (model X.prog X.w) X.A (eval b X.env) (fun u gF => wpAny (model X.prog X.w) X.A (compareOp op v u) (EP X pins σ Q) X.xe gF) X.xe az) X.xe s
theorem Am (b : Expr) {op : CmpOp} (h : op ≠ .In) (h2 : op ≠ .NotIn) : behindInMarks op b = false := by
  have e1 : (op == CmpOp.In) = false := by cases op <;> first | rfl | exact absurd rfl h
  have e2 : (op == CmpOp.NotIn) = false := by cases op <;> first | rfl | exact absurd rfl h2
  cases b <;> simp [behindInMarks, e1, e2]
noncomputable def tB (t : TE) : TT := fun σ H Q => t σ H fun x H1 => ∃ c, x = .bl c ∧ Q c H1
theorem Mp {op : CmpOp} {t : TE} (h : PC X op a b t) (h1 : behindInMarks op b = false := by first | exact Am _ (by decide) (by decide) | rfl) : PT X (.Compare a [op] [b] pos) (tB t) := by
  refine ⟨?_⟩
  intro pins s σ H Q I hw
  refine wpAny_isTrue_Compare1 (thn (h pins s σ H _ I hw) fun v s1 h1 => thn h1 fun u s2 h2 => thn h2 fun c s3 ⟨x, H1, I1, r1, q1⟩ => ?_) h1
  obtain ⟨d, rfl, q⟩ := q1
  cases r1
  exact wpAny_truthy_bool ⟨H1, I1, q⟩
theorem EH {e : Expr} {t : TE} (h : PE X e t) (he : ∀ whole, isTrue e X.env whole = (do let v ← whole; standAt e.pos; holding [v] (truthy v)) := by intro _; rfl) : PT X e (tB t) := by
  refine ⟨?_⟩
  intro pins s σ H Q I hw
  refine isTrue_plain (thn (h pins s σ H _ I hw) fun v s1 ⟨x, H1, I1, r1, q1⟩ => ?_) (he _)
  obtain ⟨d, rfl, q⟩ := q1
  cases r1
  exact wpAny_truthy_bool ⟨H1, I1, q⟩
variable {tA nR : TT} {rest : List Expr}
noncomputable def K1 (t u : TT) : TT := fun σ H Q => t σ H fun c H1 => if c = true then u σ H1 Q else Q false H1
noncomputable def Mq (t u : TT) : TT := fun σ H Q => t σ H fun c H1 => if c = true then Q true H1 else u σ H1 Q
noncomputable def K2 (t : TT) : TT := fun σ H Q => t σ H fun c H1 => Q (!c) H1
theorem C6 (ha : PT X a tA) : PW X (.BoolOp .And [a] pos) tA := by
  intro wh pins s σ H Q I h
  refine isTrue_and (thn (ha pins s σ H Q I h) fun c s1 e => ?_)
  cases c with
  | true => exact isTrue_and_nil e
  | false => exact e
theorem EI (ha : PT X a tA) : PW X (.BoolOp .Or [a] pos) tA := by
  intro wh pins s σ H Q I h
  refine isTrue_or (thn (ha pins s σ H Q I h) fun c s1 e => ?_)
  cases c with
  | false => exact isTrue_or_nil e
  | true => exact e
theorem EJ (ha : PT X a tA) (hb : PW X (.BoolOp .And (b :: rest) pos) nR) : PW X (.BoolOp .And (a :: b :: rest) pos) (K1 tA nR) := by
  intro wh pins s σ H Q I h
  refine isTrue_and (thn (ha pins s σ H _ I h) fun c s1 ⟨H1, I1, q1⟩ => ?_)
  cases c with
  | true => exact hb wh pins s1 σ H1 Q I1 q1
  | false => exact ⟨H1, I1, q1⟩
theorem Il (ha : PT X a tA) (hb : PW X (.BoolOp .Or (b :: rest) pos) nR) : PW X (.BoolOp .Or (a :: b :: rest) pos) (Mq tA nR) := by
  intro wh pins s σ H Q I h
  refine isTrue_or (thn (ha pins s σ H _ I h) fun c s1 ⟨H1, I1, q1⟩ => ?_)
  cases c with
  | true => exact ⟨H1, I1, q1⟩
  | false => exact hb wh pins s1 σ H1 Q I1 q1
theorem EK (ha : PT X a tA) : PT X (.UnaryOp .Not a pos) (K2 tA) := by
  refine ⟨?_⟩
  intro pins s σ H Q I h
  exact isTrue_not (ha pins s σ H (fun c H1 => Q (!c) H1) I h)
noncomputable def Im (ta tb : TE) : TE := fun σ H Q => ta σ H fun x H1 => ∃ c, x = .bl c ∧ if c = true then tb σ H1 Q else Q (.bl false) H1
noncomputable def Io (ta : TE) : TE := fun σ H Q => ta σ H fun x H1 => ∃ c, x = .bl c ∧ Q (.bl (!c)) H1
theorem EL {op} {t : TE} (h : PE X a t) : PE X (.BoolOp op [a] pos) t := ⟨fun pins s σ H Q I hw => BoolOp_one (h pins s σ H Q I hw)⟩
theorem ER (ha : PE X a ta) (hb : PE X (.BoolOp .And (b :: rest) pos) tb) : PE X (.BoolOp .And (a :: b :: rest) pos) (Im ta tb) := by
  refine ⟨?_⟩
  intro pins s σ H Q I h
  refine BoolOp_and (thn (ha pins s σ H _ I h) fun v s1 ⟨x, H1, I1, r1, q1⟩ => ?_)
  obtain ⟨c, rfl, q1⟩ := q1
  cases r1
  refine wpAny_truthy_bool ?_
  cases c with
  | true => exact hb pins s1 σ H1 Q I1 q1
  | false => exact ⟨.bl false, H1, I1, rfl, q1⟩
theorem EV (ha : PE X a ta) : PE X (.UnaryOp .Not a pos) (Io ta) := by
  refine ⟨?_⟩
  intro pins s σ H Q I h
  refine UnaryOp_ (thn (ha pins s σ H _ I h) fun v s1 ⟨x, H1, I1, r1, q1⟩ => ?_)
  obtain ⟨c, rfl, q1⟩ := q1
  cases r1
  exact not_of (wpAny_truthy_bool ⟨.bl (!c), H1, I1, rfl, q1⟩)
end
noncomputable def bB (K : PySem.W.Frag) (H : Hp) (a : Addr) (xs : List V) : Prop :=
  Rd H a (.lst xs) ∨
    ∃ (o : Obj) (its : Array Value) (n : Nat), K.lookup a = some o ∧ o.cls = .type "list" ∧ o.dict = none ∧ o.data = .seq its n ∧ its.size ≤ sizeLine ∧ Vals xs its.toList
noncomputable def ck (K : PySem.W.Frag) (H : Hp) (a : Addr) (xs : List V) : Prop :=
  Rd H a (.tup xs) ∨
    ∃ (o : Obj) (its : Array Value) (n : Nat), K.lookup a = some o ∧ o.cls = .type "tuple" ∧ o.data = .seq its n ∧ its.size ≤ sizeLine ∧ Vals xs its.toList
noncomputable def K3 : Value → Option V
  | .none => some .aq
  | .bool b => some (.bl b)
  | .int i _ => some (.int i)
  | .str x _ => some (.str x)
  | .bytes b _ => some (.iO b)
  | .float b _ => some (.uL b)
  | .ref a => some (.ref a)
  | .type n => some (.ty n)
  | _ => none
theorem RelV.abs {x : V} {u : Value} (r : RelV x u) : K3 u = some x := by
  cases x with
  | aq => cases r; rfl
  | bl _ => cases r; rfl
  | int _ => obtain ⟨t, rfl⟩ := r; rfl
  | str _ => obtain ⟨t, rfl⟩ := r; rfl
  | iO _ => obtain ⟨t, rfl⟩ := r; rfl
  | uL _ => obtain ⟨t, rfl⟩ := r; rfl
  | ref _ => cases r; rfl
  | ty _ => cases r; rfl
theorem RelV.inj {x y : V} {u : Value} (r : RelV x u) (q : RelV y u) : x = y := Option.some.inj (r.abs.symm.trans q.abs)
theorem Vals.inj : ∀ {xs ys : List V} {us : List Value}, Vals xs us → Vals ys us → xs = ys
  | _, _, _, .nil, .nil => rfl
  | _, _, _, .cons r t, .cons r' t' => by rw [r.inj r', Vals.inj t t']
section
variable {X : Cx} {pins : List (Addr × Obj)} {σ : St} {H : Hp} {s : Shared} {a : Addr} {xs ys : List V}
theorem bB.of {K : PySem.W.Frag} (h : H a = some (.lst xs)) : bB K H a xs := .inl (.inl h)
theorem ck.of {K : PySem.W.Frag} (h : H a = some (.tup xs)) : ck K H a xs := .inl (.inl h)
theorem Inv.list (I : Inv X pins σ H s) (h : bB X.K H a xs) : ∃ its : List Value, Vals xs its ∧ PlainL s.heap a its.toArray ∧ xs.length ≤ sizeLine := by
  rcases h with h | ⟨o, its, n, hk, hc, hd, hs, hz, r⟩
  · obtain ⟨z, its, n, r, e⟩ := h.ok I.hok
    exact ⟨its, r, ⟨_, n, e, rfl, rfl, rfl⟩, z⟩
  · refine ⟨its.toList, r, ⟨o, n, I.fY a o hk, hc, hd, by simpa using hs⟩, ?_⟩
    have e := r.length
    simp only [Array.length_toList] at e
    omega
theorem Inv.tuple (I : Inv X pins σ H s) (h : ck X.K H a xs) : ∃ its : List Value, Vals xs its ∧ IsTup s.heap a its.toArray ∧ xs.length ≤ sizeLine := by
  rcases h with h | ⟨o, its, n, hk, hc, hs, hz, r⟩
  · obtain ⟨z, its, r, p⟩ := h.ok I.hok
    exact ⟨its, r, j6.tup p, z⟩
  · refine ⟨its.toList, r, ⟨o, I.fY a o hk, hc, n, by simpa using hs⟩, ?_⟩
    have e := r.length
    simp only [Array.length_toList] at e
    omega
theorem Inv.rT (I : Inv X pins σ H s) (h : bB X.K H a xs) (h' : bB X.K H a ys) : xs = ys := by
  obtain ⟨its, r, ⟨o, n, e, _, _, d⟩, _⟩ := I.list h
  obtain ⟨its', r', ⟨o', n', e', _, _, d'⟩, _⟩ := I.list h'
  rw [e] at e'; cases e'
  rw [d] at d'
  injection d' with d1 _
  have : its = its' := by simpa using congrArg Array.toList d1
  subst this
  exact r.inj r'
theorem Inv.p8 (I : Inv X pins σ H s) (h : ck X.K H a xs) (h' : ck X.K H a ys) : xs = ys := by
  obtain ⟨its, r, ⟨o, e, _, n, d⟩, _⟩ := I.tuple h
  obtain ⟨its', r', ⟨o', e', _, n', d'⟩, _⟩ := I.tuple h'
  rw [e] at e'; cases e'
  rw [d] at d'
  injection d' with d1 _
  have : its = its' := by simpa using congrArg Array.toList d1
  subst this
  exact r.inj r'
end
noncomputable abbrev Cx.iR (X : Cx) (E : Value → Shared → Prop) : Cx := { X with xe := E }
noncomputable abbrev Cx.kO (X : Cx) : Cx := X.iR fun _ _ => False
theorem Cx.Ok.iR {X : Cx} (ok : X.Ok) (E : Value → Shared → Prop) : (X.iR E).Ok :=
  ⟨ok.mod, ok.kind, ok.glob, ok.blt, ok.above, ok.inj, ok.has, ok.cab, ok.hd, ok.frames, ok.stk, ok.exf, ok.bs, ok.bsz, ok.noex, ok.exfs, ok.funs, ok.frf⟩
theorem Cx.Ok.f6 {X : Cx} {E : Value → Shared → Prop} (ok : (X.iR E).Ok) : X.Ok :=
  ⟨ok.mod, ok.kind, ok.glob, ok.blt, ok.above, ok.inj, ok.has, ok.cab, ok.hd, ok.frames, ok.stk, ok.exf, ok.bs, ok.bsz, ok.noex, ok.exfs, ok.funs, ok.frf⟩
section
variable {X : Cx} {pins : List (Addr × Obj)} {σ : St} {H : Hp} {s : Shared} {E : Value → Shared → Prop}
theorem Inv.iR (I : Inv X pins σ H s) (E : Value → Shared → Prop) : Inv (X.iR E) pins σ H s := ⟨I.ok.iR E, I.os, I.bare, I.base, I.loc, I.cell, I.free, I.freeC, I.pin, I.hok, I.len⟩
theorem Inv.f6 (I : Inv (X.iR E) pins σ H s) : Inv X pins σ H s := ⟨I.ok.f6, I.os, I.bare, I.base, I.loc, I.cell, I.free, I.freeC, I.pin, I.hok, I.len⟩
theorem SP.f6 {D : Ends} {f : Flow} {s' : Shared} (h : SP (X.iR E) pins D f s') : SP X pins D f s' := by
  cases f with
  | next => obtain ⟨aH, H', I, q⟩ := h; exact ⟨aH, H', I.f6, q⟩
  | brk => obtain ⟨aH, H', I, q⟩ := h; exact ⟨aH, H', I.f6, q⟩
  | cont => obtain ⟨aH, H', I, q⟩ := h; exact ⟨aH, H', I.f6, q⟩
  | ret u => obtain ⟨v, aH, H', I, r, q⟩ := h; exact ⟨v, aH, H', I.f6, r, q⟩
theorem PE.kO {e : Expr} {t : TE} (h : PE X.kO e t) : PE X e t := ⟨fun pins s σ H Q I hw =>
  wpAny_mono (h pins s σ H Q (I.iR _) hw) (fun _ _ ⟨v, H', I', r, q⟩ => ⟨v, H', I'.f6, r, q⟩) fun _ _ z => False.elim z⟩
theorem fQ.kO {st : List Stmt} {t : TS} (h : fQ X.kO st t) : fQ X st t := ⟨fun pins s σ H D I hw =>
  wpAny_mono (h pins s σ H D (I.iR _) hw) (fun _ _ q => q.f6) fun _ _ z => False.elim z⟩
end
section
variable {X : Cx} {st : Stmt} {rest : List Stmt} {t u : TS} {e : Expr} {te : TE} {pos : Pos}
noncomputable def Ip : TS := fun D σ H => D.nx σ H
noncomputable def K4 (t u : TS) : TS := fun D σ H => t { D with nx := u D } σ H
theorem C7 : fQ X [] Ip := ⟨fun _ _ σ H _ I h => wpAny_execs_nil ⟨σ, H, I, h⟩⟩
theorem An (h1 : PS X st t) (h2 : fQ X rest u) : fQ X (st :: rest) (K4 t u) := by
  refine ⟨?_⟩
  intro pins s σ H D I h
  refine wpAny_execs_cons (thn (h1 pins s σ H { D with nx := u D } I h) fun f s1 q => ?_)
  cases f with
  | next =>
    obtain ⟨aH, H', I', q⟩ := q
    exact h2 pins s1 aH H' D I' q
  | ret v => exact q
  | brk => exact q
  | cont => exact q
theorem C8 (h1 : PS X st t) : fQ X [st] t := by
  refine ⟨?_⟩
  intro pins s σ H D I h
  refine wpAny_execs_cons (thn (h1 pins s σ H D I h) fun f s1 q => ?_)
  cases f with
  | next => exact wpAny_execs_nil q
  | ret v => exact q
  | brk => exact q
  | cont => exact q
theorem Inv.quiet {pins : List (Addr × Obj)} {σ : St} {H : Hp} {s : Shared} (I : Inv X pins σ H s) : interactive X.env = false := by simp [interactive, I.ok.kind]
noncomputable def Iq (te : TE) : TS := fun D σ H => te σ H fun _ H1 => D.nx σ H1
theorem C9 (he : PE X e te) (hs : swapsWith e none pos.line X.env = pure false := by rfl) : PS X (.Expr e pos) (Iq te) := by
  refine ⟨?_⟩
  intro pins s σ H D I h
  exact wpAny_Expr_any (thn (he pins s σ H _ I h) fun v s1 ⟨x, H1, I1, r1, q1⟩ => ⟨σ, H1, I1, q1⟩) I.quiet hs
noncomputable def K5 (te : TE) : TS := fun D σ H => te σ H D.rt
theorem EW (he : PE X e te) : PS X (.Return (some e) pos) (K5 te) := by
  refine ⟨?_⟩
  intro pins s σ H D I h
  exact wpAny_Return_some (thn (he pins s σ H _ I h) fun v s1 ⟨x, H1, I1, r1, q1⟩ => ⟨x, σ, H1, I1, r1, q1⟩)
noncomputable def K6 (c : TT) (t u : TS) : TS := fun D σ H => c σ H fun b H1 => if b = true then t D σ H1 else u D σ H1
theorem Ir {c : Expr} {a b : List Stmt} {tc : TT} (hc : PT X c tc) (ha : fQ X a t) (hb : fQ X b u) : PS X (.If c a b pos) (K6 tc t u) := by
  refine ⟨?_⟩
  intro pins s σ H D I h
  refine wpAny_If (thn (hc pins s σ H _ I h) fun d s1 ⟨H1, I1, q1⟩ => ?_)
  cases d with
  | true => exact ha pins s1 σ H1 D I1 q1
  | false => exact hb pins s1 σ H1 D I1 q1
end
noncomputable abbrev TG := V → St → Hp → (St → Hp → Prop) → Prop
noncomputable abbrev nS := List V → St → Hp → (St → Hp → Prop) → Prop
noncomputable def PG (X : Cx) (target : Expr) (t : TG) : Prop :=
  ∀ (pins : List (Addr × Obj)) (s : Shared) (σ : St) (H : Hp) (v : V) (u : Value) (Q : St → Hp → Prop), Inv X pins σ H s → RelV v u → t v σ H Q →
    wpAny (model X.prog X.w) X.A (assign target X.env u) (fun _ s' => ∃ aH H', Inv X pins aH H' s' ∧ Q aH H') X.xe s
noncomputable def qa (X : Cx) (ts : List Expr) (t : nS) : Prop :=
  ∀ (pins : List (Addr × Obj)) (s : Shared) (σ : St) (H : Hp) (vs : List V) (us : List Value) (Q : St → Hp → Prop), Inv X pins σ H s → Vals vs us → t vs σ H Q →
    wpAny (model X.prog X.w) X.A (assignInOrder ((assignEach ts X.env).map (·.2)) us) (fun _ s' => ∃ aH H', Inv X pins aH H' s' ∧ Q aH H') X.xe s
noncomputable abbrev Ao := V → V → V → Hp → (Hp → Prop) → Prop
noncomputable def EX (X : Cx) (t : Ao) : Prop :=
  ∀ (pins : List (Addr × Obj)) (s : Shared) (σ : St) (H : Hp) (o i v : V) (ov iv u : Value) (Q : Hp → Prop), Inv X pins σ H s → RelV o ov → RelV i iv → RelV v u → t o i v H Q →
    wpAny (model X.prog X.w) X.A (setItem ov iv u) (fun _ s' => ∃ H', Inv X pins σ H' s' ∧ Q H') X.xe s
section
variable {X : Cx} {pos : Pos}
noncomputable def nU (i : Nat) : TG := fun v σ H Q => Q (σ.set i (some v)) H
theorem Dc {i : Nat} {x : Str} (hN : X.N.Nodup) (hi : X.N[i]? = some x) (hx : Loc X.env.scope x) (hf : X.fn x = true ∨ X.env.scope.names.lookup x = some .local := by first | exact .inl rfl | exact .inr rfl | assumption) : PG X (.Name x pos) (nU i) := by
  intro pins s σ H v u Q I r h
  exact wpAny_assign_Name (rR I hN hi hx r (fun s' I' => ⟨_, H, I', h⟩) hf)
noncomputable def K7 : nS := fun vs σ H Q => vs = [] ∧ Q σ H
noncomputable def Iu (t : TG) (u : nS) : nS := fun vs σ H Q => ∃ v r, vs = v :: r ∧ t v σ H fun aH H' => u r aH H' Q
theorem Dd : qa X [] K7 := by
  intro pins s σ H vs us Q I r h
  obtain ⟨e, h⟩ := h
  subst e
  cases r
  exact assignInOrder_nil ⟨σ, H, I, h⟩
theorem Ap {e : Expr} {es : List Expr} {t : TG} {u : nS} (h1 : PG X e t) (h2 : qa X es u)
    (hs : (assignEach (e :: es) X.env).map (·.2) = assign e X.env :: (assignEach es X.env).map (·.2) := by rfl) : qa X (e :: es) (Iu t u) := by
  intro pins s σ H vs us Q I r h
  obtain ⟨v, vr, e1, h⟩ := h
  subst e1
  cases r with
  | cons r rr =>
    rw [hs]
    refine assignInOrder_cons (thn (h1 pins s σ H _ _ _ I r h) fun _ s1 ⟨nV, H1, I1, q1⟩ => ?_)
    exact h2 pins s1 nV H1 _ _ Q I1 rr q1
noncomputable def K8 (K : PySem.W.Frag) (n : Nat) (t : nS) : TG := fun v σ H Q => ∃ a xs, v = .ref a ∧ ck K H a xs ∧ xs.length = n ∧ t xs σ H Q
theorem EY {es : List Expr} {k : Nat} {t : nS} {n : Nat} (hc : X.calm = true) (h : qa X es t)
    (hn : (assignEach es X.env).length = n := by rfl) (mJ : (assignEach es X.env).findIdx? (·.1) = none := by rfl) : PG X (.Tuple es k pos) (K8 X.K n t) := by
  intro pins s σ H v u Q I r hw
  obtain ⟨a, xs, e1, hq, hl, hw⟩ := hw
  subst e1
  cases r
  obtain ⟨its, rv, ht, hz⟩ := I.tuple hq
  refine assign_Tuple_tuple (I.ok.hd hc) ht (by simp [hn, ← hl, rv.length]) mJ fun h' hx => ?_
  have I1 : Inv X pins σ H { s with heap := h' } := I.kept (t' := s.toks) fun b o e => hx b o (Nat.ne_of_lt (Heap.lt_size e)) e
  exact h pins _ σ H xs _ Q I1 (by simpa using rv) hw
noncomputable def K9 (to ti : TE) (t : Ao) : TG := fun v σ H Q => to σ H fun o H1 => ti σ H1 fun i H2 => t o i v H2 fun H3 => Q σ H3
theorem EZ {o i : Expr} {to ti : TE} {t : Ao} (ho : PE X o to) (hi : PE X i ti) (hs : EX X t)
    (ha : ∀ v, assign (.Subscript o i pos) X.env v = (do
      let ov ← holding [v] (eval o X.env)
      let iv ← holding [v, ov] (eval i X.env)
      standAt pos
      holding [v, ov, iv] (setItem ov iv v)
      release [v, ov, iv] []) := by intro _; rfl) : PG X (.Subscript o i pos) (K9 to ti t) := by
  intro pins s σ H v u Q I r h
  rw [ha]
  refine wpAny_bind (wpAny_holding (thn (ho pins s σ H _ I h) fun ov s1 ⟨x, H1, I1, r1, q1⟩ => ?_))
  refine wpAny_bind (wpAny_holding (thn (hi pins s1 σ H1 _ I1 q1) fun iv s2 ⟨y, H2, I2, r2, q2⟩ => ?_))
  refine wpAny_bind (wpAny_standAt (wpAny_bind (wpAny_holding (thn (hs pins s2 σ H2 x y v ov iv u _ I2 r1 r2 r q2) fun _ s3 ⟨H3, I3, q3⟩ => ?_))))
  exact wpAny_release ⟨σ, H3, I3, q3⟩
noncomputable def pf (te : TE) (g : TG) : TS := fun D σ H => te σ H fun x H1 => g x σ H1 D.nx
theorem E1 {tg e : Expr} {te : TE} {g : TG} (he : PE X e te) (hg : PG X tg g) (hs : swapsWithSole [tg] e pos.line X.env = pure false := by rfl) (hw : swappedStores [tg] e X.env = pure none := by rfl)
    (h1 : (assignEach [tg] X.env).map (·.2) = [assign tg X.env] := by rfl) : PS X (.Assign [tg] e pos) (pf te g) := by
  refine ⟨?_⟩
  intro pins s σ H D I h
  refine wpAny_Assign_stores (thn (he pins s σ H _ I h) fun v s1 ⟨x, H1, I1, r1, q1⟩ => ?_) hs hw
  rw [h1]
  exact thn (hg pins s1 σ H1 x v _ I1 r1 q1) fun _ s2 q => q
theorem E2 {i : Nat} {x : Str} {e : Expr} {te : TE} {pos' : Pos} (hN : X.N.Nodup) (hi : X.N[i]? = some x) (hx : Loc X.env.scope x) (he : PE X e te) (hs : swapsWith e (some (.Name x pos')) pos.line X.env = pure false := by rfl) (hf : X.fn x = true ∨ X.env.scope.names.lookup x = some .local := by first | exact .inl rfl | exact .inr rfl | assumption) :
    PS X (.Assign [.Name x pos'] e pos) (pf te (nU i)) := by
  refine ⟨?_⟩
  intro pins s σ H D I h
  refine wpAny_Assign_Name (thn (he pins s σ H _ I h) fun v s1 ⟨y, H1, I1, r1, q1⟩ => ?_) hs
  exact rR I1 hN hi hx r1 (fun s2 I2 => ⟨_, H1, I2, q1⟩) hf
end
section
variable {X : Cx} {pos : Pos}
noncomputable def xO (c : TT) (tb : TS) : TS := fun D σ H => ∃ W : Nat → St → Hp → Prop, (∃ m, W m σ H) ∧ ∀ m σ H, W m σ H →
  c σ H fun b H1 => if b = true then ∃ N : St → Hp → Prop, (∀ aH H', N aH H' → ∃ m', m' < m ∧ W m' aH H') ∧ tb { D with nx := N, ct := N, bk := D.nx } σ H1 else D.nx σ H1
theorem Aq {c : Expr} {body : List Stmt} {tc : TT} {tb : TS} (hp : PassesOwn (model X.prog X.w) X.A X.env X.xe) (hc : PT X c tc) (hb : fQ X body tb) : PS X (.While c body [] pos) (xO tc tb) := by
  refine ⟨?_⟩
  intro pins s σ H D I h
  obtain ⟨W, ⟨m0, w0⟩, turn⟩ := h
  refine wpAny_While (codeAny_whileLoop (fun n s' => ∃ aH H', Inv X pins aH H' s' ∧ W n aH H') ?_ m0 ⟨σ, H, I, w0⟩)
  rintro n s1 ⟨nV, H1, I1, w1⟩
  refine wpAny_passesOwn hp (thn (hc pins s1 nV H1 _ I1 (turn n nV H1 w1)) fun b s2 ⟨H2, I2, q2⟩ => ?_)
  cases b with
  | true =>
    obtain ⟨N, hN, q2⟩ := q2
    rw [if_pos rfl]
    refine wpAny_passesOwn hp (thn (hb pins s2 nV H2 _ I2 q2) fun f s3 q3 => ?_)
    cases f with
    | next =>
      obtain ⟨kG, H3, I3, n3⟩ := q3
      obtain ⟨m', hm, w3⟩ := hN kG H3 n3
      exact ⟨m', hm, kG, H3, I3, w3⟩
    | cont =>
      obtain ⟨kG, H3, I3, n3⟩ := q3
      obtain ⟨m', hm, w3⟩ := hN kG H3 n3
      exact ⟨m', hm, kG, H3, I3, w3⟩
    | brk => exact q3
    | ret v => exact q3
  | false =>
    rw [if_neg Bool.false_ne_true]
    exact wpAny_execs_nil ⟨nV, H2, I2, q2⟩
end
structure It where
  go : Nat → Hp → Prop
  yld : Nat → Hp → V → Hp → Prop
  stop : Nat → Hp → Prop
noncomputable def cS (X : Cx) (pins : List (Addr × Obj)) (H : Hp) (b : Addr) : Prop :=
  H b = none ∧ b ≠ X.env.locals ∧ b ∉ X.fs ∧ (b ∈ X.ex ∨ X.s₀.heap.objs.size ≤ b) ∧ (∀ x c, X.env.cells.lookup x = some c → c ≠ b) ∧ ∀ p ∈ X.pn ++ pins, p.1 ≠ b
theorem Inv.jH {X : Cx} {pins : List (Addr × Obj)} {σ : St} {H H' : Hp} {s : Shared} {b : Addr} (I : Inv X pins σ H s) (hb : s.heap.objs.size ≤ b) (hn : H' b = none) : cS X pins H' b := by
  refine ⟨hn, Nat.ne_of_gt (Nat.lt_of_lt_of_le I.lt hb), I.EA hb, .inr (Nat.le_trans I.sz hb), fun x c e z => ?_, fun p hp z => ?_⟩
  · obtain ⟨v, q⟩ := I.cell x c e
    exact absurd (Nat.lt_of_lt_of_le q.lt (by rw [z]; exact hb)) (Nat.lt_irrefl _)
  · exact absurd (Nat.lt_of_lt_of_le (Heap.lt_size (I.pin p hp).1) (by rw [z]; exact hb)) (Nat.lt_irrefl _)
structure Turn (P : Program) (w : World) (K : PySem.W.Frag) (tg : Expr) (J : It) (fp : List Addr) (it : Addr) (tn : Nat → Heap → Prop) : Prop where
  mem : it ∈ fp
  obj : ∀ i h, tn i h → ∀ b ∈ fp, ∃ o, h.get? b = some o ∧ ∀ v, o.data ≠ .cell v
  keep : ∀ i h h', tn i h → (∀ b ∈ fp, ∀ o, h.get? b = some o → h'.get? b = some o) → tn i h'
  item : ∀ (X : Cx), X.prog = P → X.w = w → X.K = K → X.calm = true → ∀ (i : Nat) (pins : List (Addr × Obj)) (s : Shared) (σ : St) (H : Hp) (E : Value → Shared → Prop), Inv X pins σ H s → (∀ b ∈ fp, cS X pins H b) → tn i s.heap → J.go i H →
    wpAny (model P w) X.A (pyNext (.ref it)) (fun r s1 => ∃ u, r = some u ∧
      wpAny (model P w) X.A (letOwnedTupleGo tg (.ref it) u) (fun _ s2 => ∃ x H', Inv X pins σ H' s2 ∧ RelV x u ∧ J.yld i H x H' ∧ tn (i + 1) s2.heap ∧ ∀ b ∈ fp, H' b = none) E s1) E s
  done : ∀ (X : Cx), X.prog = P → X.w = w → X.K = K → X.calm = true → ∀ (i : Nat) (pins : List (Addr × Obj)) (s : Shared) (σ : St) (H : Hp) (E : Value → Shared → Prop), Inv X pins σ H s → (∀ b ∈ fp, cS X pins H b) → tn i s.heap → J.stop i H →
    wpAny (model P w) X.A (pyNext (.ref it)) (fun r s1 => r = none ∧ Inv X pins σ H s1) E s
  self : ∀ (A : Around) (i : Nat) (s : Shared) (Q : Value → Shared → Prop) (E : Value → Shared → Prop), tn i s.heap → Q (.ref it) s → wpAny (model P w) A (pyIter (.ref it)) Q E s
noncomputable abbrev TI := St → Hp → (It → Hp → Prop) → Prop
noncomputable def JN (X : Cx) (pins : List (Addr × Obj)) (σ : St) (tg : Expr) (R : It → Hp → Prop) (rU : Value) (s2 : Shared) : Prop :=
  ∃ (it : Addr) (fp : List Addr) (tn : Nat → Heap → Prop) (J : It) (H' : Hp), rU = .ref it ∧ Inv X pins σ H' s2 ∧ Turn X.prog X.w X.K tg J fp it tn ∧ tn 0 s2.heap ∧ (∀ b ∈ fp, cS X pins H' b) ∧ R J H'
noncomputable def PI (X : Cx) (tg iter : Expr) (wi : TI) : Prop :=
  ∀ (pins : List (Addr × Obj)) (s : Shared) (σ : St) (H : Hp) (R : It → Hp → Prop), Inv X pins σ H s → wi σ H R →
    wpAny (model X.prog X.w) X.A (eval iter X.env) (fun v s1 => wpAny (model X.prog X.w) X.A (pyIter v) (JN X pins σ tg R) X.xe s1) X.xe s
theorem vG {M : Model} {A : Around} {E : Value → Shared → Prop} {s : Shared} {tg : Expr} {it : Addr} {u : Value} {o : Obj} {n : String} {vs : Array Value} {Q : Unit → Shared → Prop} (ho : s.heap.get? it = some o) (hc : o.cls = .type n) (hd : o.data = .fields vs)
    (hn : ["enumerate", "zip", "dict_itemiterator", "dict_reverseitemiterator", "odict_iterator", "itertools.zip_longest", "itertools.pairwise"].contains n = false) (hQ : Q () s) : wpAny M A (letOwnedTupleGo tg (.ref it) u) Q E s := by
  unfold letOwnedTupleGo
  cases tg <;> first
    | exact wpAny_pure hQ
    | (cases u <;> first
        | exact wpAny_pure hQ
        | (refine wpAny_bind (wpAny_load ho ?_)
           rw [hc, hd]
           show wpAny M A (if (["enumerate", "zip", "dict_itemiterator", "dict_reverseitemiterator", "odict_iterator", "itertools.zip_longest", "itertools.pairwise"].contains n && vs[0]? == some (rawInt _)) = true then _ else _) Q E s
           rw [if_neg (by intro h; rw [hn, Bool.false_and] at h; cases h)]
           exact wpAny_pure hQ))
noncomputable def E3 (K : PySem.W.Frag) (a : Addr) : It :=
  ⟨fun i H => ∃ xs x, bB K H a xs ∧ xs[i]? = some x, fun i H x H' => H' = H ∧ ∀ xs, bB K H a xs → xs[i]? = some x, fun i H => ∃ xs, bB K H a xs ∧ xs.length ≤ i⟩
noncomputable def E4 (K : PySem.W.Frag) (a : Addr) : It :=
  ⟨fun i H => ∃ xs x, ck K H a xs ∧ xs[i]? = some x, fun i H x H' => H' = H ∧ ∀ xs, ck K H a xs → xs[i]? = some x, fun i H => ∃ xs, ck K H a xs ∧ xs.length ≤ i⟩
noncomputable def xP (lo : Int) (n : Nat) : It := ⟨fun i _ => i < n, fun i H x H' => H' = H ∧ x = .int (lo + i), fun i _ => n ≤ i⟩
theorem xQ {P : Program} {w : World} {K : PySem.W.Frag} {tg : Expr} (a it : Addr) : Turn P w K tg (E3 K a) [it] it (fun i h => h.IsListIter it a i) where
  mem := by simp
  obj := fun i h st b hb => by
    have e : b = it := by simpa using hb
    subst e
    obtain ⟨o, e, c, d⟩ := st
    exact ⟨o, e, fun v z => by rw [d] at z; cases z⟩
  keep := fun i h h' st k => st.at fun o e => k it (by simp) o e
  item := by
    intro X hP hw hK hc i pins s σ H E I hf st hg
    subst hP hw hK
    obtain ⟨xs, x, hq, hx⟩ := hg
    obtain ⟨its, rv, p, hz⟩ := I.list hq
    obtain ⟨u, hu, ru⟩ := rv.get hx
    obtain ⟨f0, f1, f2, f3, f4, f5⟩ := hf it (by simp)
    refine wpAny_pyNext_list_item st p.isList (x := u) (by simpa using hu) fun h' qb sb => ?_
    have I1 : Inv X pins σ H { s with heap := h' } := I.turned (t' := s.toks) (fun b o hb e => (sb.2 b hb).trans e) f0 f1 f3 f4 f5
    obtain ⟨o, e, c, d⟩ := id qb
    exact ⟨u, rfl, vG (s := { s with heap := h' }) e c d (by decide) ⟨x, H, I1, ru, ⟨rfl, fun ys hy => by rw [I.rT hy hq]; exact hx⟩, qb, fun b hb => (hf b hb).1⟩⟩
  done := by
    intro X hP hw hK hc i pins s σ H E I hf st hg
    subst hP hw hK
    obtain ⟨xs, hq, hx⟩ := hg
    obtain ⟨its, rv, p, hz⟩ := I.list hq
    obtain ⟨f0, f1, f2, f3, f4, f5⟩ := hf it (by simp)
    have hl := rv.length
    exact wpAny_pyNext_list_end (I.ok.hd hc) st p.isList (by simp; omega) fun h' eb => ⟨rfl, I.turned (t' := s.toks) (fun b o hb e => eb b o hb e) f0 f1 f3 f4 f5⟩
  self := fun _ _ _ _ _ st h => wpAny_pyIter_listiter st h
theorem vH {P : Program} {w : World} {K : PySem.W.Frag} {tg : Expr} (a it : Addr) : Turn P w K tg (E4 K a) [it] it (fun i h => h.IsTupleIter it a i) where
  mem := by simp
  obj := fun i h st b hb => by
    have e : b = it := by simpa using hb
    subst e
    obtain ⟨o, e, c, d⟩ := st
    exact ⟨o, e, fun v z => by rw [d] at z; cases z⟩
  keep := fun i h h' st k => st.at fun o e => k it (by simp) o e
  item := by
    intro X hP hw hK hc i pins s σ H E I hf st hg
    subst hP hw hK
    obtain ⟨xs, x, hq, hx⟩ := hg
    obtain ⟨its, rv, p, hz⟩ := I.tuple hq
    obtain ⟨u, hu, ru⟩ := rv.get hx
    obtain ⟨f0, f1, f2, f3, f4, f5⟩ := hf it (by simp)
    refine wpAny_pyNext_tuple_item st (show s.heap.IsTuple a its.toArray from p) (x := u) (by simpa using hu) fun h' qb sb => ?_
    have I1 : Inv X pins σ H { s with heap := h' } := I.turned (t' := s.toks) (fun b o hb e => (sb.2 b hb).trans e) f0 f1 f3 f4 f5
    obtain ⟨o, e, c, d⟩ := id qb
    exact ⟨u, rfl, vG (s := { s with heap := h' }) e c d (by decide) ⟨x, H, I1, ru, ⟨rfl, fun ys hy => by rw [I.p8 hy hq]; exact hx⟩, qb, fun b hb => (hf b hb).1⟩⟩
  done := by
    intro X hP hw hK hc i pins s σ H E I hf st hg
    subst hP hw hK
    obtain ⟨xs, hq, hx⟩ := hg
    obtain ⟨its, rv, p, hz⟩ := I.tuple hq
    obtain ⟨f0, f1, f2, f3, f4, f5⟩ := hf it (by simp)
    have hl := rv.length
    exact wpAny_pyNext_tuple_end (I.ok.hd hc) st (show s.heap.IsTuple a its.toArray from p) (by simp; omega) fun h' eb => ⟨rfl, I.turned (t' := s.toks) (fun b o hb e => eb b o hb e) f0 f1 f3 f4 f5⟩
  self := fun _ _ _ _ _ st h => wpAny_pyIter_tupleiter st h
theorem vI {P : Program} {w : World} {K : PySem.W.Frag} {tg : Expr} (it : Addr) (lo : Int) (n : Nat) : Turn P w K tg (xP lo n) [it] it (fun i h => IsRangeIter h it (lo + (i : Nat) * 1) ((n : Int) - (i : Nat)) 1) where
  mem := by simp
  obj := fun i h st b hb => by
    have e : b = it := by simpa using hb
    subst e
    exact ⟨_, st, fun v z => by
      have z' : Data.fields _ = Data.cell v := z
      cases z'⟩
  keep := fun i h h' st k => k it (by simp) _ st
  item := by
    intro X hP hw hK hc i pins s σ H E I hf st hg
    subst hP hw hK
    obtain ⟨f0, f1, f2, f3, f4, f5⟩ := hf it (by simp)
    have W := Walks.range (prog := X.prog) (w := X.w) (I.ok.hd hc) it lo 1 n
    refine W.item i s _ _ hg st fun v h' tk hv qb kk => ?_
    obtain ⟨t, rfl⟩ := hv
    have I1 : Inv X pins σ H { s with heap := h', toks := tk } := I.turned (fun b o hb e => kk b o (by simpa using hb) e) f0 f1 f3 f4 f5
    refine ⟨_, rfl, vG (s := { s with heap := h', toks := tk }) (n := "range_iterator") qb rfl rfl (by decide) ⟨.int (lo + i), H, I1, ⟨t, ?_⟩, ⟨rfl, rfl⟩, qb, fun b hb => (hf b hb).1⟩⟩
    rw [Int.mul_one]
  done := by
    intro X hP hw hK hc i pins s σ H E I hf st hg
    subst hP hw hK
    obtain ⟨f0, f1, f2, f3, f4, f5⟩ := hf it (by simp)
    exact wpAny_pyNext_range_end (I.ok.hd hc) st (by have : n ≤ i := hg; omega) fun h' eb => ⟨rfl, I.turned (t' := s.toks) (fun b o hb e => eb b o hb e) f0 f1 f3 f4 f5⟩
  self := fun _ _ _ _ _ st h => wpAny_pyIter_rangeiter st h
section
variable {X : Cx} {tg : Expr}
noncomputable def B6 (K : PySem.W.Frag) (tl : TE) : TI := fun σ H R => tl σ H fun x H1 => ∃ a, x = .ref a ∧ (∃ xs, bB K H1 a xs) ∧ R (E3 K a) H1
noncomputable def E5 (K : PySem.W.Frag) (tl : TE) : TI := fun σ H R => tl σ H fun x H1 => ∃ a, x = .ref a ∧ (∃ xs, ck K H1 a xs) ∧ R (E4 K a) H1
theorem De {l : Expr} {tl : TE} (hl : PE X l tl) : PI X tg l (B6 X.K tl) := by
  intro pins s σ H R I h
  refine thn (hl pins s σ H _ I h) fun v s1 ⟨x, H1, I1, r1, q1⟩ => ?_
  obtain ⟨a, e, ⟨xs, hq⟩, q⟩ := q1
  subst e
  cases r1
  obtain ⟨its, rv, p, hz⟩ := I1.list hq
  refine wpAny_pyIter_list p.isList ?_
  refine ⟨s1.heap.objs.size, [s1.heap.objs.size], _, _, H1, rfl, I1.kept (t' := s1.toks) fun b o e => Heap.get?_push_of_some _ e, xQ a _, ⟨_, Heap.get?_push_size _ rfl, rfl, rfl⟩, fun b hb => ?_, q⟩
  have e : b = s1.heap.objs.size := by simpa using hb
  subst e
  exact I1.jH (Nat.le_refl _) (I1.hok.fresh (Nat.le_refl _))
theorem E6 {l : Expr} {tl : TE} (hl : PE X l tl) : PI X tg l (E5 X.K tl) := by
  intro pins s σ H R I h
  refine thn (hl pins s σ H _ I h) fun v s1 ⟨x, H1, I1, r1, q1⟩ => ?_
  obtain ⟨a, e, ⟨xs, hq⟩, q⟩ := q1
  subst e
  cases r1
  obtain ⟨its, rv, p, hz⟩ := I1.tuple hq
  refine wpAny_pyIter_tuple (show s1.heap.IsTuple a its.toArray from p) ?_
  refine ⟨s1.heap.objs.size, [s1.heap.objs.size], _, _, H1, rfl, I1.kept (t' := s1.toks) fun b o e => Heap.get?_push_of_some _ e, vH a _, ⟨_, Heap.get?_push_size _ rfl, rfl, rfl⟩, fun b hb => ?_, q⟩
  have e : b = s1.heap.objs.size := by simpa using hb
  subst e
  exact I1.jH (Nat.le_refl _) (I1.hok.fresh (Nat.le_refl _))
theorem rV {pins : List (Addr × Obj)} {σ : St} {H : Hp} {s : Shared} {R : It → Hp → Prop} {E : Value → Shared → Prop} {lo hi : Int} {t u v : Tok} {tk : Nat} (I : Inv X pins σ H s) (h1 : -(2 ^ 62) ≤ lo) (h2 : lo < 2 ^ 62) (h3 : -(2 ^ 62) ≤ hi) (h4 : hi < 2 ^ 62)
    (q : R (xP lo (hi - lo).toNat) H) : wpAny (model X.prog X.w) X.A (pyIter (.ref s.heap.objs.size)) (JN X pins σ tg R) E { s with heap := s.heap.push { cls := .type "range", data := .fields #[.int lo t, .int hi u, .int 1 v] }, toks := tk } := by
  refine wpAny_pyIter_range (IsRange.new ..) (small_one h1 h2 h3 h4) ?_
  have I1 : Inv X pins σ H { s with heap := s.heap.push { cls := .type "range", data := .fields #[.int lo t, .int hi u, .int 1 v] }, toks := tk } := I.kept fun b o e => Heap.get?_push_of_some _ e
  refine ⟨(s.heap.push { cls := .type "range", data := .fields #[.int lo t, .int hi u, .int 1 v] }).objs.size, [(s.heap.push { cls := .type "range", data := .fields #[.int lo t, .int hi u, .int 1 v] }).objs.size], _, _, H, rfl,
    I1.kept (t' := tk) fun b o e => Heap.get?_push_of_some _ e, vI _ lo (hi - lo).toNat, ?_, fun b hb => ?_, q⟩
  · have e1 : lo + ((0 : Nat) : Int) * 1 = lo := by simp
    have e2 : (((hi - lo).toNat : Nat) : Int) - ((0 : Nat) : Int) = Builtin.Range.rangeSize lo hi 1 := by rw [rangeSize_one]; split <;> omega
    show IsRangeIter _ _ (lo + ((0 : Nat) : Int) * 1) ((((hi - lo).toNat : Nat) : Int) - ((0 : Nat) : Int)) 1
    rw [e1, e2]
    exact Heap.get?_push_size _ rfl
  · have e : b = (s.heap.push { cls := .type "range", data := .fields #[.int lo t, .int hi u, .int 1 v] }).objs.size := by simpa using hb
    subst e
    exact I1.jH (Nat.le_refl _) (I1.hok.fresh (Nat.le_refl _))
noncomputable def B7 (ta : TA) : TI := fun σ H R => ta σ H fun vs H1 => ∃ j : Int, vs = [.int j] ∧ -(2 ^ 62) ≤ j ∧ j < 2 ^ 62 ∧ R (xP 0 j.toNat) H1
noncomputable def B8 (ta : TA) : TI := fun σ H R => ta σ H fun vs H1 => ∃ i j : Int, vs = [.int i, .int j] ∧ (-(2 ^ 62) ≤ i ∧ i < 2 ^ 62 ∧ -(2 ^ 62) ≤ j ∧ j < 2 ^ 62) ∧ R (xP i (j - i).toNat) H1
theorem xR {a : Expr} {ta : TA} {p pos : Pos} (hg : Gl X "range") (hm : X.mg "range" = none) (ha : PA X [a] ta) (hs : starEach [a] X.env = [(false, eval a X.env)] := by rfl) : PI X tg (.Call (.Name "range" p) [a] [] pos) (B7 ta) := by
  intro pins s σ H R I h
  refine Call_ (fZ I hg hm boot_range (PyProof.Rows.callWith_type1 (thn (ha pos pins s σ H _ I h) fun us s1 ⟨vs, H1, I1, r1, q1⟩ => ?_) hs rfl))
  obtain ⟨j, e, q1, q2, q⟩ := q1
  subst e
  cases r1 with
  | cons r rr =>
    cases rr
    obtain ⟨t, rfl⟩ := r
    exact call_range_1 (rV I1 (by omega) (by omega) q1 q2 (by simpa using q))
theorem xS {a b : Expr} {ta : TA} {p pos : Pos} (hg : Gl X "range") (hm : X.mg "range" = none) (ha : PA X [a, b] ta) (hs : starEach [a, b] X.env = [(false, eval a X.env), (false, eval b X.env)] := by rfl) (B9 : starEach [b] X.env = [(false, eval b X.env)] := by rfl) :
    PI X tg (.Call (.Name "range" p) [a, b] [] pos) (B8 ta) := by
  intro pins s σ H R I h
  refine Call_ (fZ I hg hm boot_range (PyProof.Rows.callWith_type1 (thn (ha pos pins s σ H _ I h) fun us s1 ⟨vs, H1, I1, r1, q1⟩ => ?_) (by rw [hs, B9]) (by rw [B9]; rfl)))
  obtain ⟨i, j, e, ⟨q1, q2, q3, q4⟩, q⟩ := q1
  subst e
  cases r1 with
  | cons r rr =>
    cases rr with
    | cons r' rr =>
      cases rr
      obtain ⟨t, rfl⟩ := r
      obtain ⟨t', rfl⟩ := r'
      exact call_range_2 (rV I1 q1 q2 q3 q4 q)
noncomputable def E7 (wi : TI) (g : TG) (tb : TS) : TS := fun D σ H => wi σ H fun J H1 => ∃ W : Nat → Nat → St → Hp → Prop, (∃ m, W 0 m σ H1) ∧ ∀ i m σ H, W i m σ H →
  (J.stop i H ∧ D.nx σ H) ∨ (J.go i H ∧ ∃ N : St → Hp → Prop, (∀ aH H', N aH H' → ∃ m', m' < m ∧ W (i + 1) m' aH H') ∧ ∀ x H', J.yld i H x H' → g x σ H' fun nW H2 => tb { D with nx := N, ct := N, bk := D.nx } nW H2)
noncomputable def gV (fp : List Addr) (h : Heap) : List (Addr × Obj) := fp.filterMap fun b => (h.get? b).map fun o => (b, o)
theorem cu {fp : List Addr} {h : Heap} {b : Addr} {o : Obj} (hb : b ∈ fp) (e : h.get? b = some o) : (b, o) ∈ gV fp h := List.mem_filterMap.mpr ⟨b, hb, by rw [e]; rfl⟩
theorem xT {fp : List Addr} {h : Heap} {p : Addr × Obj} (hp : p ∈ gV fp h) : p.1 ∈ fp ∧ h.get? p.1 = some p.2 := by
  obtain ⟨b, hb, e⟩ := List.mem_filterMap.mp hp
  cases q : h.get? b with
  | none => rw [q] at e; cases e
  | some o =>
    rw [q] at e
    have e' : (b, o) = p := Option.some.inj e
    subst e'
    exact ⟨hb, q⟩
theorem Inv.pinned {pins : List (Addr × Obj)} {σ : St} {H : Hp} {s : Shared} {fp : List Addr} (I : Inv X pins σ H s) (hf : ∀ b ∈ fp, cS X pins H b) (ho : ∀ b ∈ fp, ∃ o, s.heap.get? b = some o ∧ ∀ v, o.data ≠ .cell v) : Inv X (pins ++ gV fp s.heap) σ H s :=
  I.o9 fun p hp => (List.mem_append.mp hp).elim (fun z => I.pin p (List.mem_append_right _ z)) fun z => by
    obtain ⟨hb, e⟩ := xT z
    obtain ⟨f0, f1, f2, _⟩ := hf p.1 hb
    obtain ⟨o, e', d⟩ := ho p.1 hb
    rw [e] at e'; cases e'
    exact ⟨e, f0, f1, f2, d⟩
theorem Inv.dP {pins pl : List (Addr × Obj)} {σ : St} {H : Hp} {s : Shared} (I : Inv X (pins ++ pl) σ H s) : Inv X pins σ H s := I.o9 fun p hp => I.pin p (List.mem_append_right _ (List.mem_append_left _ hp))
theorem E8 {iter : Expr} {body : List Stmt} {wi : TI} {g : TG} {tb : TS} {pos : Pos} (hp : PassesOwn (model X.prog X.w) X.A X.env X.xe) (hc : X.calm = true) (hi : PI X tg iter wi) (hg : PG X tg g) (hb : fQ X body tb)
    (hs : ∀ x, foldedSetIterable iter X.env x = pure x := by intro _; rfl) : PS X (.For tg iter body [] pos) (E7 wi g tb) := by
  refine ⟨?_⟩
  intro pins s σ H D I h
  refine wpAny_For (thn (hi pins s σ H _ I h) fun v s1 h1 => thn h1 fun rU s2 h2 => ?_) hs
  obtain ⟨it, fp, tn, J, H2, e, I2, T, kP, f2, W, ⟨m0, w0⟩, turn⟩ := h2
  subst e
  have stat : ∀ {H' : Hp}, (∀ b ∈ fp, H' b = none) → ∀ b ∈ fp, cS X pins H' b := fun hn b hb => ⟨hn b hb, (f2 b hb).2⟩
  refine codeAny_forLoop_any (fun n s' => ∃ i aH H', Inv X pins aH H' s' ∧ tn i s'.heap ∧ (∀ b ∈ fp, H' b = none) ∧ W i n aH H') ?_ m0 ⟨0, σ, H2, I2, kP, fun b hb => (f2 b hb).1, w0⟩
  rintro n s3 ⟨i, kG, H3, I3, js, kQ, w3⟩
  rcases turn i n kG H3 w3 with ⟨stop, qn⟩ | ⟨go, N, hN, step⟩
  · refine wpAny_passesOwn hp (thn (T.done X rfl rfl rfl hc i pins s3 kG H3 X.xe I3 (stat kQ) js stop) fun r s4 ⟨hr, I4⟩ => ?_)
    subst hr
    exact wpAny_execs_nil ⟨kG, H3, I4, qn⟩
  · refine wpAny_passesOwn hp (thn (T.item X rfl rfl rfl hc i pins s3 kG H3 X.xe I3 (stat kQ) js go) fun r s4 ⟨u, hr, h4⟩ => ?_)
    subst hr
    refine wpAny_passesOwn hp (thn h4 fun _ s5 ⟨x, H5, I5, r5, y5, f7, nX⟩ => ?_)
    have nY := I5.pinned (stat nX) (T.obj _ _ f7)
    refine wpAny_passesOwn hp (thn (hg _ s5 kG H5 x u _ nY r5 (step x H5 y5)) fun _ s6 ⟨Mr, H6, I6, q6⟩ => ?_)
    refine wpAny_passesOwn hp (thn (hb _ s6 Mr H6 _ I6 q6) fun f s7 q7 => ?_)
    have again : ∀ {kR : St} {H7 : Hp}, Inv X (pins ++ gV fp s5.heap) kR H7 s7 → N kR H7 → ∃ m, m < n ∧ ∃ i aH H', Inv X pins aH H' s7 ∧ tn i s7.heap ∧ (∀ b ∈ fp, H' b = none) ∧ W i m aH H' := fun {kR H7} I7 n7 => by
      obtain ⟨m', hm, w7⟩ := hN kR H7 n7
      refine ⟨m', hm, i + 1, kR, H7, I7.dP, T.keep _ _ _ f7 fun b hb o e => (I7.pin (b, o) (List.mem_append_right _ (List.mem_append_right _ (cu hb e)))).1, fun b hb => ?_, w7⟩
      obtain ⟨o, e, d⟩ := T.obj _ _ f7 b hb
      exact (I7.pin (b, o) (List.mem_append_right _ (List.mem_append_right _ (cu hb e)))).2.1
    cases f with
    | next => obtain ⟨kR, H7, I7, n7⟩ := q7; exact again I7 n7
    | cont => obtain ⟨kR, H7, I7, n7⟩ := q7; exact again I7 n7
    | brk => obtain ⟨kR, H7, I7, q7⟩ := q7; exact ⟨kR, H7, I7.dP, q7⟩
    | ret v => obtain ⟨x7, kR, H7, I7, r7, q7⟩ := q7; exact ⟨x7, kR, H7, I7.dP, r7, q7⟩
end
noncomputable abbrev R2 := V → V → Hp → VK → Prop
noncomputable def OpR (X : Cx) (f : Value → Value → Sem Value) (r : R2) : Prop :=
  ∀ (pins : List (Addr × Obj)) (s : Shared) (σ : St) (H : Hp) (x y : V) (v u : Value) (Q : VK), Inv X pins σ H s → RelV x v → RelV y u → r x y H Q →
    wpAny (model X.prog X.w) X.A (f v u) (EP X pins σ Q) X.xe s
noncomputable def cW (X : Cx) (f : Value) (r : List V → Hp → VK → Prop) : Prop :=
  ∀ (pins : List (Addr × Obj)) (s : Shared) (σ : St) (H : Hp) (xs : List V) (us : List Value) (Q : VK), Inv X pins σ H s → Vals xs us → r xs H Q →
    wpAny (model X.prog X.w) X.A (call f us) (EP X pins σ Q) X.xe s
noncomputable def La (X : Cx) (r : V → Hp → (Bool → Hp → Prop) → Prop) : Prop :=
  ∀ (pins : List (Addr × Obj)) (s : Shared) (σ : St) (H : Hp) (x : V) (v : Value) (Q : Bool → Hp → Prop), Inv X pins σ H s → RelV x v → r x H Q →
    wpAny (model X.prog X.w) X.A (truthy v) (TP X pins σ Q) X.xe s
noncomputable def xU (r : R2) (ta tb : TE) : TE := fun σ H Q => ta σ H fun x H1 => tb σ H1 fun y H2 => r x y H2 Q
noncomputable def rI (C : Int → Int → Prop) (g : Int → Int → V) : R2 := fun x y H Q => ∃ i j, x = .int i ∧ y = .int j ∧ C i j ∧ Q (g i j) H
noncomputable def nZ (g : Int → Int → V) : R2 := fun x y H Q => ∃ i j, x = .int i ∧ y = .int j ∧ Q (g i j) H
section
variable {X : Cx} {a b c : Expr} {ta tb tc : TE} {pos : Pos}
theorem Ar (ha : PE X a ta) (hb : PE X b tb) {pins : List (Addr × Obj)} {s : Shared} {σ : St} {H : Hp} {R : V → V → Hp → Prop} (I : Inv X pins σ H s)
    (h : ta σ H fun x H1 => tb σ H1 fun y H2 => R x y H2) {Q : Value → Shared → Prop} {f : Value → Value → Sem Value}
    (hf : ∀ v u s2 x y H2, Inv X pins σ H2 s2 → RelV x v → RelV y u → R x y H2 → wpAny (model X.prog X.w) X.A (f v u) Q X.xe s2) :
    wpAny (model X.prog X.w) X.A (eval a X.env) (fun v az => wpAny (model X.prog X.w) X.A (eval b X.env) (fun u gF => wpAny (model X.prog X.w) X.A (f v u) Q X.xe gF) X.xe az) X.xe s := by
  refine thn (ha pins s σ H _ I h) fun v s1 ⟨x, H1, I1, r1, q1⟩ => ?_
  refine thn (hb pins s1 σ H1 _ I1 q1) fun u s2 ⟨y, H2, I2, r2, q2⟩ => ?_
  exact hf v u s2 x y H2 I2 r1 r2 q2
theorem Iv {op : Operator} {r : R2} (ho : OpR X (binaryOp op) r) (ha : PE X a ta) (hb : PE X b tb) : PE X (.BinOp a op b pos) (xU r ta tb) := by
  refine ⟨?_⟩
  intro pins s σ H Q I h
  exact wpAny_BinOp (Ar ha hb I h fun v u s2 x y H2 I2 rx ry q => ho pins s2 σ H2 x y v u Q I2 rx ry q)
theorem uO {f : Value → Value → Sem Value} {C : Int → Int → Prop} {g : Int → Int → Int}
    (rule : ∀ (i j : Int) (t u : Tok) (s : Shared) (Q : Value → Shared → Prop) (E : Value → Shared → Prop), C i j → Q (.int (g i j) s.toks) { s with toks := s.toks + 1 } → wpAny (model X.prog X.w) X.A (f (.int i t) (.int j u)) Q E s) :
    OpR X f (rI C fun i j => .int (g i j)) := by
  intro pins s σ H x y v u Q I rx ry h
  obtain ⟨i, j, rfl, rfl, hc, q⟩ := h
  obtain ⟨t, rfl⟩ := rx
  obtain ⟨t', rfl⟩ := ry
  exact rule i j t t' s _ _ hc ⟨.int (g i j), H, I.tok _, ⟨_, rfl⟩, q⟩
theorem As {f : Value → Value → Sem Value} {g : Int → Int → Int}
    (rule : ∀ (i j : Int) (t u : Tok) (s : Shared) (Q : Value → Shared → Prop) (E : Value → Shared → Prop), Q (.int (g i j) s.toks) { s with toks := s.toks + 1 } → wpAny (model X.prog X.w) X.A (f (.int i t) (.int j u)) Q E s) :
    OpR X f (nZ fun i j => .int (g i j)) := by
  intro pins s σ H x y v u Q I rx ry h
  obtain ⟨i, j, rfl, rfl, q⟩ := h
  obtain ⟨t, rfl⟩ := rx
  obtain ⟨t', rfl⟩ := ry
  exact rule i j t t' s _ _ ⟨.int (g i j), H, I.tok _, ⟨_, rfl⟩, q⟩
theorem Au {f : Value → Value → Sem Value} {g : Int → Int → Bool}
    (rule : ∀ (i j : Int) (t u : Tok) (s : Shared) (Q : Value → Shared → Prop) (E : Value → Shared → Prop), Q (.bool (g i j)) s → wpAny (model X.prog X.w) X.A (f (.int i t) (.int j u)) Q E s) :
    OpR X f (nZ fun i j => .bl (g i j)) := by
  intro pins s σ H x y v u Q I rx ry h
  obtain ⟨i, j, rfl, rfl, q⟩ := h
  obtain ⟨t, rfl⟩ := rx
  obtain ⟨t', rfl⟩ := ry
  exact rule i j t t' s _ _ ⟨.bl (g i j), H, I, rfl, q⟩
noncomputable def E9 (i j : Int) : Prop := 0 < j ∧ j < 1073741824
noncomputable def vJ (i j : Int) : Prop := 0 ≤ j ∧ j ≤ 1000000 ∧ i.natAbs < 2 ^ 64
noncomputable def vK (i j : Int) : Prop := (-(2 ^ 64) < i ∧ i < 2 ^ 64) ∨ (-(2 ^ 64) < j ∧ j < 2 ^ 64)
theorem vK.ok {i j : Int} (h : vK i j) : IntMulOk i j := by
  rcases h with ⟨h1, h2⟩ | ⟨h1, h2⟩
  · exact .of_left (intBits_le_64 h1 h2)
  · exact .of_right (intBits_le_64 h1 h2)
theorem vL (k : Nat) : (0 : Int) ≤ 2 ^ k := by
  rw [two_pow_cast]
  exact Int.natCast_nonneg _
theorem Fb : OpR X (binaryOp .Add) (nZ fun i j => .int (i + j)) := As fun _ _ _ _ _ _ _ q => add_int q
theorem Fc : OpR X (binaryOp .Sub) (nZ fun i j => .int (i - j)) := As fun _ _ _ _ _ _ _ q => sub_int q
theorem Fd : OpR X (binaryOp .Mult) (rI vK fun i j => .int (i * j)) := uO fun _ _ _ _ _ _ _ hc q => mul_int q hc.ok
theorem Dg : OpR X (binaryOp .FloorDiv) (rI E9 fun i j => .int (i / j)) := uO fun i j _ _ _ _ _ hc q => by
  have h1 : (0 : Int) < j := hc.1
  have h2 : j < 1073741824 := hc.2
  exact floordiv_int (by omega) (by rw [Int.fdiv_eq_ediv_of_nonneg i (by omega)]; exact q) (.inl (PyProof.noPylong_small (by omega)))
theorem Fe : OpR X (binaryOp .Mod) (rI (fun _ j => 0 < j) fun i j => .int (i % j)) := uO fun i j _ _ _ _ _ hc q => by
  have h1 : (0 : Int) < j := hc
  exact mod_int' (by omega) (by rw [Int.fmod_eq_emod_of_nonneg i (by omega)]; exact q)
theorem Ff : OpR X (binaryOp .Pow) (rI vJ fun i j => .int (i ^ j.toNat)) := uO fun _ _ _ _ _ _ _ hc q => pow_int_small hc.1 hc.2.1 hc.2.2 q
theorem Fg : OpR X (binaryOp .LShift) (rI vJ fun i j => .int (i * 2 ^ j.toNat)) := uO fun _ _ _ _ _ _ _ hc q => lshift_int_small hc.1 hc.2.1 hc.2.2 q
theorem Fh : OpR X (binaryOp .RShift) (rI (fun _ j => 0 ≤ j) fun i j => .int (i / 2 ^ j.toNat)) := uO fun i j _ _ _ _ _ hc q =>
  rshift_int hc (by rw [Int.fdiv_eq_ediv_of_nonneg i (vL _)]; exact q)
theorem Fi : OpR X (binaryOp .BitAnd) (nZ fun i j => .int (Builtin.bitAnd i j)) := As fun _ _ _ _ _ _ _ q => and_int q
end
noncomputable def Av : V → V → Bool
  | .aq, .aq => true | .aq, .int _ => true | .int _, .aq => true | .aq, .bl _ => true | .bl _, .aq => true | .aq, .str _ => true | .str _, .aq => true
  | .int _, .int _ => true | .bl _, .bl _ => true | .str _, .str _ => true | .iO _, .iO _ => true
  | .int _, .str _ => true | .str _, .int _ => true | .bl _, .str _ => true | .str _, .bl _ => true
  | _, _ => false
noncomputable def Ms : R2 := fun x y H Q => Av x y = true ∧ Q (.bl (decide (x = y))) H
noncomputable def Mt : R2 := fun x y H Q => Av x y = true ∧ Q (.bl (!decide (x = y))) H
theorem uP {i j : Int} : decide (V.int i = V.int j) = (i == j) := by
  rw [Bool.eq_iff_iff]
  simp
theorem xV {i j : Bool} : decide (V.bl i = V.bl j) = (i == j) := by
  rw [Bool.eq_iff_iff]
  simp
theorem uQ {i j : Str} : decide (V.str i = V.str j) = (i == j) := by
  rw [Bool.eq_iff_iff]
  simp
theorem uR {i j : Array UInt8} : decide (V.iO i = V.iO j) = (i.toList == j.toList) := by
  rw [Bool.eq_iff_iff]
  cases i
  cases j
  simp
section
variable {X : Cx} {a b c : Expr} {ta tb tc : TE} {pos : Pos}
theorem aS {pins : List (Addr × Obj)} {σ : St} {H : Hp} {s : Shared} {Q : VK} {k k' : Bool} (I : Inv X pins σ H s) (q : Q (.bl k) H) (e : k = k') : EP X pins σ Q (.bool k') s := by
  subst e
  exact ⟨.bl k, H, I, rfl, q⟩
theorem Iw : OpR X (compareOp .Eq) Ms := by
  intro pins s σ H x y v u Q I rx ry h
  obtain ⟨hs, q⟩ := h
  cases x with
  | aq =>
    cases rx
    cases y with
    | aq => cases ry; exact PySem.EqNone.eq_none_none (aS I q (by simp))
    | bl j => cases ry; exact PySem.EqNone.eq_none_bool (aS I q (by simp))
    | int j => obtain ⟨t', rfl⟩ := ry; exact PySem.EqNone.eq_none_int (aS I q (by simp))
    | str j => obtain ⟨t', rfl⟩ := ry; exact PySem.EqNone.eq_none_str (aS I q (by simp))
    | _ => exact absurd (show false = true from hs) Bool.false_ne_true
  | bl i =>
    cases rx
    cases y with
    | aq => cases ry; exact PySem.EqNone.eq_bool_none (aS I q (by simp))
    | bl j => cases ry; exact eq_bool (aS I q xV)
    | str j => obtain ⟨t', rfl⟩ := ry; exact PySem.EqMixed.eq_bool_str (aS I q (by simp))
    | _ => exact absurd (show false = true from hs) Bool.false_ne_true
  | int i =>
    obtain ⟨t, rfl⟩ := rx
    cases y with
    | aq => cases ry; exact PySem.EqNone.eq_int_none (aS I q (by simp))
    | int j => obtain ⟨t', rfl⟩ := ry; exact eq_int (aS I q uP)
    | str j => obtain ⟨t', rfl⟩ := ry; exact PySem.EqMixed.eq_int_str (aS I q (by simp))
    | _ => exact absurd (show false = true from hs) Bool.false_ne_true
  | str i =>
    obtain ⟨t, rfl⟩ := rx
    cases y with
    | aq => cases ry; exact PySem.EqNone.eq_str_none (aS I q (by simp))
    | bl j => cases ry; exact PySem.EqMixed.eq_str_bool (aS I q (by simp))
    | int j => obtain ⟨t', rfl⟩ := ry; exact PySem.EqMixed.eq_str_int (aS I q (by simp))
    | str j => obtain ⟨t', rfl⟩ := ry; exact eq_str (aS I q uQ)
    | _ => exact absurd (show false = true from hs) Bool.false_ne_true
  | iO i =>
    obtain ⟨t, rfl⟩ := rx
    cases y with
    | iO j => obtain ⟨t', rfl⟩ := ry; exact PySem.W.eq_bytes (aS I q uR)
    | _ => exact absurd (show false = true from hs) Bool.false_ne_true
  | _ => cases y <;> exact absurd (show false = true from hs) Bool.false_ne_true
theorem Iy : OpR X (compareOp .NotEq) Mt := by
  intro pins s σ H x y v u Q I rx ry h
  obtain ⟨hs, q⟩ := h
  cases x with
  | aq =>
    cases rx
    cases y with
    | aq => cases ry; exact PySem.EqNone.ne_none_none (aS I q (by simp))
    | bl j => cases ry; exact PySem.EqNone.ne_none_bool (aS I q (by simp))
    | int j => obtain ⟨t', rfl⟩ := ry; exact PySem.EqNone.ne_none_int (aS I q (by simp))
    | str j => obtain ⟨t', rfl⟩ := ry; exact PySem.EqNone.ne_none_str (aS I q (by simp))
    | _ => exact absurd (show false = true from hs) Bool.false_ne_true
  | bl i =>
    cases rx
    cases y with
    | aq => cases ry; exact PySem.EqNone.ne_bool_none (aS I q (by simp))
    | bl j => cases ry; exact ne_bool (aS I q (congrArg not xV))
    | str j => obtain ⟨t', rfl⟩ := ry; exact PySem.EqMixed.ne_bool_str (aS I q (by simp))
    | _ => exact absurd (show false = true from hs) Bool.false_ne_true
  | int i =>
    obtain ⟨t, rfl⟩ := rx
    cases y with
    | aq => cases ry; exact PySem.EqNone.ne_int_none (aS I q (by simp))
    | int j => obtain ⟨t', rfl⟩ := ry; exact ne_int (aS I q (congrArg not uP))
    | str j => obtain ⟨t', rfl⟩ := ry; exact PySem.EqMixed.ne_int_str (aS I q (by simp))
    | _ => exact absurd (show false = true from hs) Bool.false_ne_true
  | str i =>
    obtain ⟨t, rfl⟩ := rx
    cases y with
    | aq => cases ry; exact PySem.EqNone.ne_str_none (aS I q (by simp))
    | bl j => cases ry; exact PySem.EqMixed.ne_str_bool (aS I q (by simp))
    | int j => obtain ⟨t', rfl⟩ := ry; exact PySem.EqMixed.ne_str_int (aS I q (by simp))
    | str j => obtain ⟨t', rfl⟩ := ry; exact ne_str (aS I q (congrArg not uQ))
    | _ => exact absurd (show false = true from hs) Bool.false_ne_true
  | iO i =>
    obtain ⟨t, rfl⟩ := rx
    cases y with
    | iO j => obtain ⟨t', rfl⟩ := ry; exact PySem.W.ne_bytes (aS I q (congrArg not uR))
    | _ => exact absurd (show false = true from hs) Bool.false_ne_true
  | _ => cases y <;> exact absurd (show false = true from hs) Bool.false_ne_true
theorem Iz : OpR X (compareOp .Lt) (nZ fun i j => .bl (decide (i < j))) := Au fun _ _ _ _ _ _ _ q => lt_int q
theorem IA : OpR X (compareOp .LtE) (nZ fun i j => .bl (decide (i ≤ j))) := Au fun _ _ _ _ _ _ _ q => le_int q
theorem IB : OpR X (compareOp .Gt) (nZ fun i j => .bl (decide (j < i))) := Au fun _ _ _ _ _ _ _ q => gt_int q
theorem Fj : OpR X (compareOp .Is) (fun x y H Q => y = .aq ∧ Q (.bl (decide (x = .aq))) H) := by
  intro pins s σ H x y v u Q I rx ry h
  obtain ⟨rfl, q⟩ := h
  cases ry
  refine is_none_gen (aS I q ?_)
  cases x <;> first
    | (cases rx; rfl)
    | (obtain ⟨t, rfl⟩ := rx; rfl)
theorem Dh : OpR X (compareOp .IsNot) (fun x y H Q => y = .aq ∧ Q (.bl (!decide (x = .aq))) H) := by
  intro pins s σ H x y v u Q I rx ry h
  obtain ⟨rfl, q⟩ := h
  cases ry
  refine isnot_none_gen (aS I q ?_)
  cases x <;> first
    | (cases rx; rfl)
    | (obtain ⟨t, rfl⟩ := rx; rfl)
theorem bw (b : Expr) {op : CmpOp} (h : op ≠ .In := by decide) (h2 : op ≠ .NotIn := by decide) : behindInMarks op b = false := by
  have e1 : (op == CmpOp.In) = false := by cases op <;> first | rfl | exact absurd rfl h
  have e2 : (op == CmpOp.NotIn) = false := by cases op <;> first | rfl | exact absurd rfl h2
  cases b <;> simp [behindInMarks, e1, e2]
theorem Di {op : CmpOp} {r : R2} (ho : OpR X (compareOp op) r) (ha : PE X a ta) (hb : PE X b tb) (hm : behindInMarks op b = false) : PE X (.Compare a [op] [b] pos) (xU r ta tb) := by
  refine ⟨?_⟩
  intro pins s σ H Q I h
  exact wpAny_Compare1 (Ar ha hb I h fun v u s2 x y H2 I2 rx ry q => ho pins s2 σ H2 x y v u Q I2 rx ry q) hm
noncomputable def vM (t : TE) : TT := fun σ H Q => t σ H fun x H' => ∃ k, x = .bl k ∧ Q k H'
theorem Dj {op : CmpOp} {r : R2} (ho : OpR X (compareOp op) r) (ha : PE X a ta) (hb : PE X b tb) (hm : behindInMarks op b = false) : PT X (.Compare a [op] [b] pos) (vM (xU r ta tb)) := by
  refine ⟨?_⟩
  intro pins s σ H Q I h
  refine wpAny_isTrue_Compare1 (thn (ha pins s σ H _ I h) fun v s1 ⟨x, H1, I1, r1, q1⟩ => thn (hb pins s1 σ H1 _ I1 q1) fun u s2 ⟨y, H2, I2, r2, q2⟩ =>
    thn (ho pins s2 σ H2 x y v u _ I2 r1 r2 q2) fun c s3 ⟨z, H3, I3, r3, k, e, q3⟩ => ?_) hm
  subst e
  cases r3
  exact wpAny_truthy_bool ⟨H3, I3, q3⟩
noncomputable def rW (r r' : R2) (ta tb tc : TE) : TE := fun σ H Q => ta σ H fun x H1 => tb σ H1 fun y H2 => r x y H2 fun z H3 => ∃ k, z = .bl k ∧
  (if k = true then tc σ H3 fun w' H4 => r' y w' H4 Q else Q (.bl false) H3)
theorem Aw {op iS : CmpOp} {r r' : R2} (ho : OpR X (compareOp op) r) (gz : OpR X (compareOp iS) r') (ha : PE X a ta) (hb : PE X b tb) (hc : PE X c tc)
    (hm : lastMarks [op, iS] [b, c] = false := by with_unfolding_all rfl) : PE X (.Compare a [op, iS] [b, c] pos) (rW r r' ta tb tc) := by
  refine ⟨?_⟩
  intro pins s σ H Q I h
  refine Compare_chain (thn (ha pins s σ H _ I h) fun v s1 ⟨x, H1, I1, r1, q1⟩ => chain_link (thn (hb pins s1 σ H1 _ I1 q1) fun u s2 ⟨y, H2, I2, r2, q2⟩ =>
    thn (ho pins s2 σ H2 x y v u _ I2 r1 r2 q2) fun d s3 ⟨z, H3, I3, r3, k, e, q3⟩ => ?_)) hm
  subst e
  cases r3
  refine wpAny_truthy_bool ?_
  cases k with
  | false => exact ite_ff ⟨.bl false, H3, I3, rfl, q3⟩
  | true => exact ite_tt (chain_last (thn (hc pins s3 σ H3 _ I3 q3) fun w' s4 ⟨z', H4, I4, r4, q4⟩ => gz pins s4 σ H4 y z' u w' Q I4 r2 r4 q4))
theorem Ax {op iS : CmpOp} {r r' : R2} (ho : OpR X (compareOp op) r) (gz : OpR X (compareOp iS) r') (ha : PE X a ta) (hb : PE X b tb) (hc : PE X c tc)
    (hm : lastMarks [op, iS] [b, c] = false := by with_unfolding_all rfl) : PT X (.Compare a [op, iS] [b, c] pos) (vM (rW r r' ta tb tc)) := by
  refine ⟨?_⟩
  intro pins s σ H Q I h
  refine isTrue_chain (thn (ha pins s σ H _ I h) fun v s1 ⟨x, H1, I1, r1, q1⟩ => test_link (thn (hb pins s1 σ H1 _ I1 q1) fun u s2 ⟨y, H2, I2, r2, q2⟩ =>
    thn (ho pins s2 σ H2 x y v u _ I2 r1 r2 q2) fun d s3 ⟨z, H3, I3, r3, k, e, q3⟩ => ?_)) hm
  subst e
  cases r3
  refine wpAny_truthy_bool ?_
  cases k with
  | false =>
    obtain ⟨k', e', q'⟩ := q3
    cases e'
    exact ite_ff ⟨H3, I3, q'⟩
  | true =>
    refine ite_tt (test_last (thn (hc pins s3 σ H3 _ I3 q3) fun w' s4 ⟨z', H4, I4, r4, q4⟩ => thn (gz pins s4 σ H4 y z' u w' _ I4 r2 r4 q4) fun d' s5 ⟨z2, H5, I5, r5, k2, e2, q5⟩ => ?_))
    subst e2
    cases r5
    exact wpAny_truthy_bool ⟨H5, I5, q5⟩
noncomputable def Ay (K : PySem.W.Frag) (x : V) (H : Hp) (k : Bool) : Prop :=
  match x with
  | .aq => k = false
  | .bl b => k = b
  | .int i => k = (i != 0)
  | .str y => y.length ≤ sizeLine ∧ k = ((y.length : Int) != 0)
  | .iO y => y.size ≤ sizeLine ∧ k = ((y.size : Int) != 0)
  | .ref p => (∃ xs, bB K H p xs ∧ k = !xs.isEmpty) ∨ (∃ xs, ck K H p xs ∧ k = !xs.isEmpty) ∨ ∃ au, H p = some (.dK au) ∧ k = !au.isEmpty
  | _ => False
theorem vN {κ : Type} {au : List (κ × V)} {vs : List (κ × Value)} (r : KV au vs) : (!vs.isEmpty) = !au.isEmpty := by
  cases r <;> rfl
theorem n5 {xs : List V} {its : List Value} (r : Vals xs its) : (!its.toArray.isEmpty) = !xs.isEmpty := by
  cases r <;> simp
theorem jN : (sizeLine : Nat) < 2 ^ 63 := by rw [sizeLine_eq]; decide
theorem Fl : La X (fun x H Q => ∃ k, Ay X.K x H k ∧ Q k H) := by
  intro pins s σ H x v Q I rx h
  obtain ⟨k, e, q⟩ := h
  have hl := jN
  have hs : sizeLine = 16777216 := sizeLine_eq
  cases x with
  | aq =>
    cases rx
    have e' : k = false := e
    subst e'
    exact truthy_none ⟨H, I, q⟩
  | bl b =>
    cases rx
    have e' : k = b := e
    subst e'
    exact wpAny_truthy_bool ⟨H, I, q⟩
  | int i =>
    obtain ⟨t, rfl⟩ := rx
    have e' : k = (i != 0) := e
    subst e'
    exact PySem.P.truthy_int ⟨H, I, q⟩
  | str y =>
    obtain ⟨t, rfl⟩ := rx
    obtain ⟨hy, e'⟩ : y.length ≤ sizeLine ∧ k = ((y.length : Int) != 0) := e
    subst e'
    exact PySem.P.truthy_str (by omega) ⟨H, I.tok _, q⟩
  | iO y =>
    obtain ⟨t, rfl⟩ := rx
    obtain ⟨hy, e'⟩ : y.size ≤ sizeLine ∧ k = ((y.size : Int) != 0) := e
    subst e'
    exact PySem.W.truthy_bytes (by omega) ⟨H, I.tok _, q⟩
  | ref p =>
    cases rx
    have e' : (∃ xs, bB X.K H p xs ∧ k = !xs.isEmpty) ∨ (∃ xs, ck X.K H p xs ∧ k = !xs.isEmpty) ∨ ∃ au, H p = some (.dK au) ∧ k = !au.isEmpty := e
    rcases e' with ⟨xs, hx, e'⟩ | ⟨xs, hx, e'⟩ | ⟨au, hx, e'⟩
    · subst e'
      obtain ⟨its, r, pl, hz⟩ := I.list hx
      have hlen := r.length
      exact wpAny_truthy_list pl.isList (by simp only [List.size_toArray]; omega) ⟨H, I.tok _, by rw [n5 r]; exact q⟩
    · subst e'
      obtain ⟨its, r, pl, hz⟩ := I.tuple hx
      have hlen := r.length
      exact truthy_tuple pl (by simp only [List.size_toArray]; omega) ⟨H, I.tok _, by rw [n5 r]; exact q⟩
    · subst e'
      obtain ⟨hz, hS, vs, r, m⟩ : au.length ≤ sizeLine ∧ (p == sysModules) = false ∧ ∃ vs, KV au vs ∧ s.heap.DictOf (bJ X.prog X.w) p vs := I.hok p _ hx
      have hlen : au.length = vs.length := Paired.length r
      exact wpAny_truthy_dict hS m (by omega) ⟨H, I.tok _, by rw [vN r]; exact q⟩
  | _ => exact (show False from e).elim
theorem Az (ha : PE X a ta) (he : ∀ whole, isTrue a X.env whole = (do let v ← whole; standAt a.pos; holding [v] (truthy v))) :
    PT X a (fun σ H Q => ta σ H fun x H' => ∃ k, Ay X.K x H' k ∧ Q k H') := by
  refine ⟨?_⟩
  intro pins s σ H Q I h
  exact isTrue_plain (thn (ha pins s σ H _ I h) fun v s1 ⟨x, H1, I1, r1, q1⟩ => Fl pins s1 σ H1 x v Q I1 r1 q1) (he _)
theorem vO : OpR X (binaryOp .Add) (fun x y H Q => ∃ i j, x = .str i ∧ y = .str j ∧ i.length + j.length ≤ sizeLine ∧ Q (.str (i ++ j)) H) := by
  intro pins s σ H x y v u Q I rx ry h
  obtain ⟨i, j, rfl, rfl, hz, q⟩ := h
  obtain ⟨t, rfl⟩ := rx
  obtain ⟨t', rfl⟩ := ry
  exact add_str (fun t' tk => ⟨.str (i ++ j), H, I.tok _, ⟨_, rfl⟩, q⟩) hz
theorem vals1 {x : V} {us : List Value} (r : Vals [x] us) : ∃ u, us = [u] ∧ RelV x u := by
  cases r with
  | cons r1 r2 => cases r2; exact ⟨_, rfl, r1⟩
theorem vals2 {x y : V} {us : List Value} (r : Vals [x, y] us) : ∃ u w', us = [u, w'] ∧ RelV x u ∧ RelV y w' := by
  cases r with
  | cons r1 r2 =>
    cases r2 with
    | cons r3 r4 => cases r4; exact ⟨_, _, rfl, r1, r3⟩
theorem AA : cW X (.builtin "abs") (fun xs H Q => ∃ i, xs = [.int i] ∧ Q (.int (if i < 0 then -i else i)) H) := by
  intro pins s σ H xs us Q I r h
  obtain ⟨i, rfl, q⟩ := h
  obtain ⟨u, rfl, t, rfl⟩ := vals1 r
  exact call_abs_int fun u tk => ⟨.int (if i < 0 then -i else i), H, I.tok _, ⟨_, rfl⟩, q⟩
theorem xW (hc : X.calm = true) : cW X (.builtin "max") (fun xs H Q => ∃ i j, xs = [.int i, .int j] ∧ Q (.int (if j > i then j else i)) H) := by
  intro pins s σ H xs us Q I r h
  obtain ⟨i, j, rfl, q⟩ := h
  obtain ⟨u, w', rfl, ⟨t, rfl⟩, ⟨t', rfl⟩⟩ := vals2 r
  refine max_two_ints (I.ok.hd hc) fun h' tk k => ⟨_, H, I.kept k, ?_, q⟩
  by_cases hj : j > i
  · rw [if_pos hj, if_pos hj]; exact ⟨_, rfl⟩
  · rw [if_neg hj, if_neg hj]; exact ⟨_, rfl⟩
theorem xX (hc : X.calm = true) : cW X (.builtin "min") (fun xs H Q => ∃ i j, xs = [.int i, .int j] ∧ Q (.int (if j < i then j else i)) H) := by
  intro pins s σ H xs us Q I r h
  obtain ⟨i, j, rfl, q⟩ := h
  obtain ⟨u, w', rfl, ⟨t, rfl⟩, ⟨t', rfl⟩⟩ := vals2 r
  refine min_two_ints (I.ok.hd hc) fun h' tk k => ⟨_, H, I.kept k, ?_, q⟩
  by_cases hj : j < i
  · rw [if_pos hj, if_pos hj]; exact ⟨_, rfl⟩
  · rw [if_neg hj, if_neg hj]; exact ⟨_, rfl⟩
noncomputable def Fm (K : PySem.W.Frag) (x : V) (H : Hp) (n : Nat) : Prop :=
  match x with
  | .str y => y.length ≤ sizeLine ∧ n = y.length
  | .iO y => y.size ≤ sizeLine ∧ n = y.size
  | .ref p => (∃ xs, bB K H p xs ∧ n = xs.length) ∨ ∃ xs, ck K H p xs ∧ n = xs.length
  | _ => False
theorem AB : cW X (.builtin "len") (fun xs H Q => ∃ x n, xs = [x] ∧ Fm X.K x H n ∧ Q (.int n) H) := by
  intro pins s σ H xs us Q I r h
  obtain ⟨x, n, rfl, e, q⟩ := h
  obtain ⟨u, rfl, rx⟩ := vals1 r
  have hl := jN
  have hs : sizeLine = 16777216 := sizeLine_eq
  cases x with
  | str y =>
    obtain ⟨t, rfl⟩ := rx
    obtain ⟨hy, e'⟩ : y.length ≤ sizeLine ∧ n = y.length := e
    subst e'
    exact len_str (by omega) ⟨.int _, H, I.tok _, ⟨_, rfl⟩, q⟩
  | iO y =>
    obtain ⟨t, rfl⟩ := rx
    obtain ⟨hy, e'⟩ : y.size ≤ sizeLine ∧ n = y.size := e
    subst e'
    exact PySem.W.len_bytes (by omega) ⟨.int _, H, I.tok _, ⟨_, rfl⟩, q⟩
  | ref p =>
    cases rx
    have e' : (∃ xs, bB X.K H p xs ∧ n = xs.length) ∨ ∃ xs, ck X.K H p xs ∧ n = xs.length := e
    rcases e' with ⟨xs, hx, e'⟩ | ⟨xs, hx, e'⟩
    · subst e'
      obtain ⟨its, r', pl, hz⟩ := I.list hx
      have hlen := r'.length
      exact Calls.call_len_list pl.isList (by simp only [List.size_toArray]; omega) ⟨.int xs.length, H, I.tok _, ⟨_, by simp only [List.size_toArray]; rw [hlen]⟩, q⟩
    · subst e'
      obtain ⟨its, r', pl, hz⟩ := I.tuple hx
      have hlen := r'.length
      exact len_tuple pl (by simp only [List.size_toArray]; omega) ⟨.int xs.length, H, I.tok _, ⟨_, by simp only [List.size_toArray]; rw [hlen]⟩, q⟩
  | _ => exact (show False from e).elim
end
structure AD (h : Heap) (x dx C : Addr) (mA : Str → Option Value) : Prop where
  obj : h.get? x = some (PySem.W.instObj C dx)
  ns : h.Ns1 dx mA
  ne : dx ≠ x
theorem xY {h : Heap} {dx : Addr} {mA : Str → Option Value} (n : h.Ns1 dx mA) : ∃ od, h.get? dx = some od ∧ ∀ name, PySem.W.lookIn name od = some (mA name) := by
  obtain ⟨o, es, ep, ho, hd, hk, _, hm⟩ := n
  refine ⟨o, ho, fun name => ?_⟩
  have e := hm name
  unfold nsFind findBy at e
  rw [← Array.find?_toList] at e
  unfold PySem.W.lookIn
  rw [hd]
  dsimp only
  split
  · rename_i y q
    rw [q] at e
    exact congrArg some e
  · rename_i q
    rw [q] at e
    have a : es.toList.any (·.refKey) = false := by
      rw [List.any_eq_false]
      intro y hy
      obtain ⟨z, t, vP⟩ := hk y (Array.mem_toList_iff.mp hy)
      simp [DictEntry.refKey, vP]
    have a' : ¬ es.toList.any (·.refKey) = true := by rw [a]; exact Bool.false_ne_true
    rw [if_neg a']
    exact congrArg some e
theorem AD.look {h : Heap} {x dx C : Addr} {mA : Str → Option Value} (I : AD h x dx C mA) : ∃ od, PySem.W.InstAt h x (PySem.W.instObj C dx) C (some od) ∧ ∀ name, PySem.W.lookIn name od = some (mA name) :=
  let ⟨od, ho, hl⟩ := xY I.ns
  ⟨od, ⟨I.obj, rfl, rfl, ho⟩, hl⟩
theorem iP.some_of {v : V} {o : Option Value} (r : iP (some v) o) : ∃ u, o = some u ∧ RelV v u := by
  cases o with
  | none => exact (show False from r).elim
  | some u => exact ⟨u, rfl, r⟩
section
variable {P : Program} {w : World} {H H' : Hp} {h h' : Heap} {a C dx : Addr} {fs Mm : List (Str × V)}
theorem Dk (hok : cc P w H h) (e : H a = some (.ins C dx fs)) : ∃ mA, AD h a dx C mA ∧ (∀ f, iP (fs.lookup f) (mA f)) ∧ PySem.Within mA (fs.map (·.1)) ∧ fs.length ≤ 1000 ∧ H dx = some (.own a) := by
  obtain ⟨d, z, ne, ob, mA, n, r, q⟩ := (show ObjOk P w H h a (.ins C dx fs) from hok a _ e)
  exact ⟨mA, ⟨ob, n, ne⟩, r, q, z, d⟩
end
structure Fn (K : PySem.W.Frag) (C : Addr) : Prop where
  pg : PySem.W.plainGet K C Str.empty = true
  hd : PySem.W.hasDictIn K C = true
  po : PySem.W.plainOver K C = true
  sa : PySem.W.findIn K (.ref C) "__setattr__" = some (some (.builtin "object.__setattr__"))
theorem Fn.get {K : PySem.W.Frag} {C : Addr} (c : Fn K C) (f : Str) : PySem.W.plainGet K C f = true := c.pg
section
variable {X : Cx} {pins : List (Addr × Obj)} {σ : St} {H : Hp} {s : Shared} {A : Around} {E : Value → Shared → Prop} {Q : Value → Shared → Prop} {c : Value} {b : Bool}
inductive fD (K : PySem.W.Frag) (H : Hp) : V → Value → Prop where
  | aq : fD K H .aq (.type "NoneType")
  | bl (x : Bool) : fD K H (.bl x) (.type "bool")
  | int (i : Int) : fD K H (.int i) (.type "int")
  | str (x : Str) : fD K H (.str x) (.type "str")
  | uL (x : UInt64) : fD K H (.uL x) (.type "float")
  | lst {a : Addr} {xs : List V} (e : H a = some (.lst xs)) : fD K H (.ref a) (.type "list")
  | bA {a : Addr} {o : Obj} {xs : List V} (e : H a = some (.bA o (.lst xs))) : fD K H (.ref a) (.type "list")
  | tup {a : Addr} {xs : List V} (e : H a = some (.tup xs)) : fD K H (.ref a) (.type "tuple")
  | dK {a : Addr} {au : List (Key × V)} (e : H a = some (.dK au)) : fD K H (.ref a) (.type "dict")
  | dT {a : Addr} {au : List (List Key × V)} (e : H a = some (.dT au)) : fD K H (.ref a) (.type "dict")
  | ins {a C dx : Addr} {fs : List (Str × V)} (e : H a = some (.ins C dx fs)) (cl : Fn K C) (ha : PySem.W.findIn K (.ref C) "__class__" = some (some (.builtin "object.__class__")))
      (hn : PySem.W.specialIn K (.builtin "object.__class__") "__get__" = some (some (.builtin "getset_descriptor.__get__"))) (JO : PySem.W.takesIn K (.builtin "object.__class__") = some true)
      (hm : PySem.W.mroIn K C (.type "object") = some true) : fD K H (.ref a) (.ref C)
theorem xZ {x : V} {u t : Value} (I : Inv X pins σ H s) (rx : RelV x u) (ty : fD X.K H x t) (e : PySem.W.kitOne X.K t c = some b) (h : ∀ tk, Q (.bool b) { s with toks := tk }) :
    wpAny (model X.prog X.w) A (call (.builtin "isinstance") [u, c]) Q E s := by
  cases ty with
  | aq => cases (show u = Value.none from rx); exact PySem.W.kia_one PySem.W.kitx_none I.fY True.intro e (fun z => nomatch z) h
  | bl y => cases (show u = Value.bool y from rx); exact PySem.W.kia_one PySem.W.kitx_bool I.fY True.intro e (fun z => nomatch z) h
  | int i => obtain ⟨t, q⟩ := (show ∃ t, u = Value.int i t from rx); cases q; exact PySem.W.kia_one PySem.W.kitx_int I.fY True.intro e (fun z => nomatch z) h
  | str y => obtain ⟨t, q⟩ := (show ∃ t, u = Value.str y t from rx); cases q; exact PySem.W.kia_one PySem.W.kitx_str I.fY True.intro e (fun z => nomatch z) h
  | uL y => obtain ⟨t, q⟩ := (show ∃ t, u = Value.float y t from rx); cases q; exact PySem.W.kia_one PySem.W.kitx_float I.fY True.intro e (fun z => nomatch z) h
  | @lst a xs ea =>
    cases (show u = Value.ref a from rx)
    obtain ⟨_, _, n, _, h1⟩ := (show ObjOk X.prog X.w H s.heap a (.lst xs) from I.hok a _ ea)
    exact PySem.W.kia_one PySem.W.kitx_list I.fY ⟨_, h1, rfl⟩ e (fun z => nomatch z) h
  | @bA a ob xs ea =>
    cases (show u = Value.ref a from rx)
    obtain ⟨_, _, _, n, _, h1⟩ := (show ObjOk X.prog X.w H s.heap a (.bA ob (.lst xs)) from I.hok a _ ea)
    exact PySem.W.kia_one PySem.W.kitx_list I.fY ⟨_, h1, rfl⟩ e (fun z => nomatch z) h
  | @tup a xs ea =>
    cases (show u = Value.ref a from rx)
    obtain ⟨_, _, _, p⟩ := (show ObjOk X.prog X.w H s.heap a (.tup xs) from I.hok a _ ea)
    obtain ⟨o, h1, h2, _⟩ := p
    exact PySem.W.kia_one PySem.W.kitx_tuple I.fY ⟨o, h1, h2⟩ e (fun z => nomatch z) h
  | @dK a au ea =>
    cases (show u = Value.ref a from rx)
    obtain ⟨_, _, vs, _, p⟩ := (show ObjOk X.prog X.w H s.heap a (.dK au) from I.hok a _ ea)
    obtain ⟨o, es, ep, h1, h2, _⟩ := p
    exact PySem.W.kia_one PySem.W.kitx_dict I.fY ⟨o, h1, h2.1⟩ e (fun z => nomatch z) h
  | @dT a au ea =>
    cases (show u = Value.ref a from rx)
    obtain ⟨_, _, xs, _, o, es, ep, h1, h2, _⟩ := (show ObjOk X.prog X.w H s.heap a (.dT au) from I.hok a _ ea)
    exact PySem.W.kia_one PySem.W.kitx_dict I.fY ⟨o, h1, h2.1⟩ e (fun z => nomatch z) h
  | @ins a C dx fs ea cl ha hn JO hm =>
    cases (show u = Value.ref a from rx)
    obtain ⟨mA, O, _⟩ := Dk I.hok ea
    obtain ⟨od, J, _⟩ := O.look
    exact PySem.W.kia_one (PySem.W.kitx_own (cl.get _) cl.hd ha hn JO hm) I.fY J e (fun z => nomatch z) h
end
structure bE (k : Nat) (A : Around) : Prop where
  hd : A.handled = none
  dp : A.depth + 3 * k + 5 < recursionLimit
  un : A.units + 16 * k + 200 < cLine
theorem bE.mono {j k : Nat} {A : Around} (r : bE k A) (h : j ≤ k) : bE j A := ⟨r.hd, by have := r.dp; omega, by have := r.un; omega⟩
theorem bE.deeper {k : Nat} {A : Around} (r : bE (k + 1) A) (env : Env) : bE k (A.deeper env) :=
  ⟨r.hd, by have := r.dp; show A.depth + 1 + 3 * k + 5 < _; omega, by have := r.un; show A.units + 3 + 16 * k + 200 < _; omega⟩
theorem bE.depth {k : Nat} {A : Around} (r : bE k A) : A.depth < recursionLimit := by have := r.dp; omega
theorem bE.units {k : Nat} {A : Around} (r : bE k A) : A.units + 64 < cLine := by have := r.un; omega
noncomputable def Lb : TA := fun _ H Q => Q [] H
noncomputable def IC (ta : TE) (tr : TA) : TA := fun σ H Q => ta σ H fun x H1 => tr σ H1 fun xs H2 => Q (x :: xs) H2
section
variable {X : Cx} {e : Expr} {es : List Expr} {te : TE} {t : TA} {pos : Pos}
theorem Fo : PA X [] Lb := ⟨fun _ _ _ _ H Q I h => Calls.spliced_nil ⟨[], H, I, .nil, h⟩⟩
theorem md (ha : PE X e te) (hr : PA X es t) (hs : starEach (e :: es) X.env = (false, eval e X.env) :: starEach es X.env := by rfl) : PA X (e :: es) (IC te t) := by
  refine ⟨?_⟩
  intro pos pins s σ H Q I h
  rw [hs]
  show wpAny _ _ (spliced ((false, eval e X.env) :: backTo pos (starEach es X.env))) _ _ s
  refine Calls.spliced_cons (thn (ha pins s σ H _ I h) fun u s1 ⟨x, H1, I1, r1, q1⟩ => ?_)
  exact thn (hr pos pins s1 σ H1 _ I1 q1) fun us s2 ⟨xs, H2, I2, r2, q2⟩ => ⟨x :: xs, H2, I2, .cons r1 r2, q2⟩
noncomputable def Lc (t : TA) : TE := fun σ H Q => t σ H fun xs H1 => xs.length ≤ sizeLine ∧ ∀ p, H1 p = none → Q (.ref p) (upd H1 p (.tup xs))
noncomputable def Ld (t : TA) : TE := fun σ H Q => t σ H fun xs H1 => xs.length ≤ sizeLine ∧ ∀ p, H1 p = none → Q (.ref p) (upd H1 p (.lst xs))
theorem Fp {x1} (h : PA X es t) : PE X (.Tuple es x1 pos) (Lc t) := by
  refine ⟨?_⟩
  intro pins s σ H Q I hq
  refine wpAny_Tuple_spliced (thn (h pos pins s σ H _ I hq) fun us s1 ⟨xs, H1, I1, r, z, q⟩ => ⟨by rw [← r.length]; exact z, ?_⟩)
  have hf : H1 s1.heap.objs.size = none := I1.hok.fresh (Nat.le_refl _)
  refine ⟨.ref s1.heap.objs.size, upd H1 s1.heap.objs.size (.tup xs), I1.laid (t' := s1.toks) (fun b u e => Heap.get?_push_of_some _ e) (Nat.le_refl _) ?_, rfl, q _ hf⟩
  exact ⟨z, us, r, ⟨_, Heap.get?_push_size _ rfl, rfl, _, rfl, rfl⟩⟩
theorem ya (h : PA X es t) : PE X (.List es pos) (Ld t) := by
  refine ⟨?_⟩
  intro pins s σ H Q I hq
  refine wpAny_List_spliced (thn (h pos pins s σ H _ I hq) fun us s1 ⟨xs, H1, I1, r, z, q⟩ => ⟨by rw [← r.length]; exact z, ?_⟩)
  have hf : H1 s1.heap.objs.size = none := I1.hok.fresh (Nat.le_refl _)
  refine ⟨.ref s1.heap.objs.size, upd H1 s1.heap.objs.size (.lst xs), I1.laid (t' := s1.toks) (fun b u e => Heap.get?_push_of_some _ e) (Nat.le_refl _) ?_, rfl, q _ hf⟩
  exact ⟨z, us, 0, r, Heap.get?_push_size _ rfl⟩
end
noncomputable abbrev Sp := List V → Hp → VK → XK → Prop
noncomputable abbrev f9 := List Env → Hp → Shared → XK → Value → Shared → Prop
structure ph (P : Program) (w : World) (K : PySem.W.Frag) (mg : Str → Option Value) (base : Heap) (A : Around) (outer : List Env) (s : Shared) (H : Hp) : Prop where
  frames : A.frames = some outer
  mod : Mod K mg base
  bs : ∀ b o, base.get? b = some o → s.heap.get? b = some o ∧ H b = none
  bsz : base.objs.size ≤ s.heap.objs.size
  funs : s.heap.FunFrames base outer
  frf : ∀ b ∈ dN outer, H b = none
  hok : cc P w H s.heap
  bare : AllBare s.gens
noncomputable def CE (outer : List Env) (P : Program) (w : World) (H : Hp) (s : Shared) (Q : VK) (u : Value) (s' : Shared) : Prop :=
  ∃ v H', s'.os = s.os ∧ Gn s.gens.size s'.gens ∧ Un (dN outer) [] H H' s.heap s'.heap ∧ cc P w H' s'.heap ∧ RelV v u ∧ Q v H'
noncomputable def CR (CX : f9) (outer : List Env) (P : Program) (w : World) (H : Hp) (s : Shared) (Q : VK) (E : XK) (r : Result) (s' : Shared) : Prop :=
  match r with
  | .ok (.ret u) => CE outer P w H s Q u s'
  | .ok _ => False
  | .error e => CX outer H s E e s'
structure FnOk (P : Program) (w : World) (K : PySem.W.Frag) (mg : Str → Option Value) (base : Heap) (CX : f9) (k : Nat) (f : Addr) (fd : FuncData) (ps : List Str) (sp : Sp) : Prop where
  len : ∀ vs H Q E, sp vs H Q E → vs.length = ps.length
  run : ∀ (A : Around) (outer : List Env) (s : Shared) (H : Hp) (args : Args) (us : List Value) (vs : List V) (Q : VK) (E : XK), bE k A → ph P w K mg base A outer s H → BindsTo s fd args (ps.zip us) → Vals vs us → sp vs H Q E →
    codeAny (model P w) A (.call (.ref f) args) (CR CX outer P w H s Q E) s
theorem FnOk.mono {P : Program} {w : World} {K : PySem.W.Frag} {mg : Str → Option Value} {base : Heap} {CX : f9} {j k : Nat} {f : Addr} {fd : FuncData} {ps : List Str} {sp : Sp} (F : FnOk P w K mg base CX j f fd ps sp) (h : j ≤ k) :
    FnOk P w K mg base CX k f fd ps sp := ⟨F.len, fun A outer s H args us vs Q E hr => F.run A outer s H args us vs Q E (hr.mono h)⟩
theorem FnOk.imp {P : Program} {w : World} {K : PySem.W.Frag} {mg : Str → Option Value} {base : Heap} {CX : f9} {k : Nat} {f : Addr} {fd : FuncData} {ps : List Str} {sp JP : Sp} (F : FnOk P w K mg base CX k f fd ps sp)
    (h : ∀ vs H Q E, JP vs H Q E → sp vs H Q E) : FnOk P w K mg base CX k f fd ps JP :=
  ⟨fun vs H Q E q => F.len vs H Q E (h _ _ _ _ q), fun A outer s H args us vs Q E hr he hb hv hs => F.run A outer s H args us vs Q E hr he hb hv (h _ _ _ _ hs)⟩
section
variable {X : Cx} {pins : List (Addr × Obj)} {σ : St} {H : Hp} {s s' : Shared}
theorem Inv.Le (I : Inv X pins σ H s) : ph X.prog X.w X.K X.mg X.base X.A X.stack s H :=
  ⟨I.ok.frames, I.ok.mod, I.bs, Nat.le_trans I.ok.bsz I.sz, I.stack, I.jM, I.hok, I.bare.1⟩
theorem Inv.after {Q : VK} {u : Value} (I : Inv X pins σ H s) (h : CE X.stack X.prog X.w H s Q u s') : EP X pins σ Q u s' := by
  obtain ⟨v, H', os, bare, un, hok, r, q⟩ := h
  obtain ⟨hh, g, d, t, Ca⟩ := s'
  obtain rfl : Ca = s.os := os
  exact ⟨v, H', I.call (h' := hh) (g' := g) (d' := d) (t' := t) (ch := []) un hok bare (fun b z => absurd z (by simp)), r, q⟩
end
noncomputable def Cb (sp : Sp) (ft : List V) (E : XK) (t : TA) : TE := fun σ H Q => t σ H fun vs H1 => sp (vs ++ ft) H1 Q E
noncomputable def Binds (K : PySem.W.Frag) (fd : FuncData) (ps : List Str) (ds : List Value) : Prop :=
  ∀ (s : Shared) (us : List Value), K.In s.heap → (us ++ ds).length = ps.length → BindsTo s fd ⟨us, []⟩ (ps.zip (us ++ ds))
theorem Binds.all {K : PySem.W.Frag} {fd : FuncData} {ps : List Str} (h : ∀ us : List Value, us.length = ps.length → bindArgs fd ⟨us, []⟩ = pure (ps.zip us)) : Binds K fd ps [] := fun s us _ hl => by
  rw [List.append_nil] at hl ⊢
  exact .of_eq (h us hl)
noncomputable def Passes (CX : f9) (X : Cx) (E : XK) : Prop := ∀ (pins : List (Addr × Obj)) (σ : St) (H : Hp) (s : Shared) (e : Value) (s' : Shared), Inv X pins σ H s → CX X.stack H s E e s' → X.xe e s'
section
variable {X : Cx} {CX : f9} {k : Nat} {f C : Addr} {fd : FuncData} {ps : List Str} {sp : Sp} {ft : List V} {ds : List Value} {E : XK} {x m : Str} {p pos apos : Pos} {e o : Expr} {es : List Expr} {ta : TE} {t : TA}
theorem yb {pins : List (Addr × Obj)} {σ : St} {H : Hp} {s : Shared} {Q : VK} {us : List Value} {vs : List V} (F : FnOk X.prog X.w X.K X.mg X.base CX k f fd ps sp) (hr : bE k X.A) (hb : Binds X.K fd ps ds) (hd : Vals ft ds) (hx : Passes CX X E)
    (I : Inv X pins σ H s) (r : Vals vs us) (h : sp (vs ++ ft) H Q E) : wpAny (model X.prog X.w) X.A (call (.ref f) us) (EP X pins σ Q) X.xe s := by
  have r2 : Vals (vs ++ ft) (us ++ ds) := r.append hd
  have hl : (us ++ ds).length = ps.length := by rw [← r2.length]; exact F.len _ _ _ _ h
  refine wpAny_call (codeAny_mono (F.run X.A X.stack s H ⟨us, []⟩ (us ++ ds) (vs ++ ft) Q E hr I.Le (hb s us I.fY hl) r2 h) fun r s' hq => ?_)
  cases r with
  | error e => exact hx pins σ H s e s' I hq
  | ok fl =>
    cases fl with
    | ret u => exact I.after hq
    | next => exact False.elim hq
    | brk => exact False.elim hq
    | cont => exact False.elim hq
theorem Dl (F : FnOk X.prog X.w X.K X.mg X.base CX k f fd ps sp) (hr : bE k X.A) (hg : Gl X x) (hm : X.mg x = some (.ref f)) (hk : PySem.W.keepIn X.K (.ref f) = true) (hb : Binds X.K fd ps ds) (hd : Vals ft ds) (hx : Passes CX X E)
    (ha : PA X (e :: es) t) (eC : (x == ("__debug__" : Str)) = false := by decide) (he : starEach (e :: es) X.env = (false, eval e X.env) :: starEach es X.env := by rfl) (bQ : (backTo pos (starEach es X.env)).any (·.1) = false := by rfl) :
    PE X (.Call (.Name x p) (e :: es) [] pos) (Cb sp ft E t) := by
  refine ⟨?_⟩
  intro pins s σ H Q I h
  refine wpAny_Call_Name_kw (l0 I hg hm ?_ eC)
  refine PySem.W.callWith_K (h₀ := X.base) I.ok.mod.kin hk (thn (ha pos pins s σ H _ I h) fun us s1 ⟨vs, H1, I1, r, q⟩ => ⟨I1.fY, ?_⟩) he bQ
  exact yb F hr hb hd hx I1 r q
end
structure aQ (N P : List Str) (sc : Scope) : Prop where
  kind : sc.kind = .function
  co : sc.isCoroutine = false
  gen : sc.isGenerator = false
  nd : N.Nodup
  pre : N.take P.length = P
  par : ∀ x ∈ P, sc.names.lookup x = some .local ∨ sc.names.lookup x = some .cell
  nofree : ∀ y ∈ sc.names, y.2 ≠ .free
theorem qd {kindOf : Str → Option NameKind} {x : Str} : ∀ {binds : List (Str × Value)} {m : Str → Option Value}, (∀ v, (x, v) ∉ binds) → bindL kindOf binds m x = m x
  | [], _, _ => rfl
  | (n, v) :: r, m, h => by
    unfold bindL
    rw [qd fun w hw => h w (List.mem_cons_of_mem _ hw)]
    split
    · have : x ≠ n := by rintro rfl; exact h v List.mem_cons_self
      simp [this]
    · rfl
theorem qf {kindOf : Str → Option NameKind} {x : Str} : ∀ {binds : List (Str × Value)} {m : Str → Option Value}, (∀ v, (x, v) ∉ binds) → bindC kindOf binds m x = m x
  | [], _, _ => rfl
  | (n, v) :: r, m, h => by
    unfold bindC
    rw [qf fun w hw => h w (List.mem_cons_of_mem _ hw)]
    split
    · rfl
    · have : x ≠ n := by rintro rfl; exact h v List.mem_cons_self
      simp [this]
theorem qg {kindOf : Str → Option NameKind} {x : Str} {v : Value} : ∀ {P : List Str} {vs : List Value} {i : Nat} {m : Str → Option Value}, P.Nodup → P[i]? = some x → vs[i]? = some v → kindOf x = some .local →
    bindL kindOf (P.zip vs) m x = some v
  | [], _, _, _, _, h, _, _ => by simp at h
  | _ :: _, [], _, _, _, _, h, _ => by simp at h
  | p :: P, w :: vs, 0, m, nd, h1, h2, hk => by
    simp at h1 h2; subst h1; subst h2
    show bindL kindOf ((p, w) :: P.zip vs) m p = _
    unfold bindL
    rw [qd fun v hv => (List.nodup_cons.mp nd).1 (List.of_mem_zip hv).1, if_pos hk]
    simp
  | p :: P, w :: vs, i + 1, m, nd, h1, h2, hk => by
    show bindL kindOf ((p, w) :: P.zip vs) m x = _
    unfold bindL
    exact qg (i := i) (List.nodup_cons.mp nd).2 (by simpa using h1) (by simpa using h2) hk
theorem qh {kindOf : Str → Option NameKind} {x : Str} {v : Value} : ∀ {P : List Str} {vs : List Value} {i : Nat} {m : Str → Option Value}, P.Nodup → P[i]? = some x → vs[i]? = some v → kindOf x ≠ some .local →
    bindC kindOf (P.zip vs) m x = some v
  | [], _, _, _, _, h, _, _ => by simp at h
  | _ :: _, [], _, _, _, _, h, _ => by simp at h
  | p :: P, w :: vs, 0, m, nd, h1, h2, hk => by
    simp at h1 h2; subst h1; subst h2
    show bindC kindOf ((p, w) :: P.zip vs) m p = _
    unfold bindC
    rw [qf fun v hv => (List.nodup_cons.mp nd).1 (List.of_mem_zip hv).1, if_neg hk]
    simp
  | p :: P, w :: vs, i + 1, m, nd, h1, h2, hk => by
    show bindC kindOf ((p, w) :: P.zip vs) m x = _
    unfold bindC
    exact qh (i := i) (List.nodup_cons.mp nd).2 (by simpa using h1) (by simpa using h2) hk
noncomputable def start (N : List Str) (vs : List V) : St := vs.map some ++ List.replicate (N.length - vs.length) none
noncomputable def fm (CX : f9) (P : Program) (w : World) (K : PySem.W.Frag) (mg : Str → Option Value) (base : Heap) (N : List Str) (qual : Str) (scope : Scope) (f : Addr) (cd : Value) (A : Around) (outer : List Env) (s : Shared) (H : Hp) (E : XK) : Cx where
  prog := P
  w := w
  K := K
  mg := mg
  base := base
  A := A.deeper (envOfC qual scope s.heap.objs.size f cd)
  N := N
  s₀ := s
  H₀ := H
  env := envOfC qual scope s.heap.objs.size f cd
  outer := outer
  stack := envOfC qual scope s.heap.objs.size f cd :: outer
  ex := []
  calm := true
  fn := fun _ => true
  pn := []
  xe := fun e s' => wpAny (model P w) (A.deeper (envOfC qual scope s.heap.objs.size f cd)) (leaving (envOfC qual scope s.heap.objs.size f cd) e) (fun _ bX => CX outer H s E e bX) (fun e' bX => CX outer H s E e' bX) s'
theorem rX {sc : Scope} {n : Nat} {x : Str} (h : sc.names.lookup x = some .cell) : ∃ c, (cellsFrom n sc.names []).lookup x = some c := by
  have q := PySem.W.cellsFrom_some sc.names n [] (.inl h)
  exact Option.isSome_iff_exists.mp q
theorem yc {CX : f9} {P : Program} {w : World} {K : PySem.W.Frag} {mg : Str → Option Value} {base : Heap} {N ps : List Str} {qual : Str} {scope : Scope} {f : Addr} {cd : Value} {A : Around} {outer : List Env} {s s1 : Shared} {H : Hp} {E : XK} {us : List Value} {vs : List V}
    (S : aQ N ps scope) (hd : A.handled = none) (e0 : ph P w K mg base A outer s H) (hl : vs.length = ps.length) (r : Vals vs us)
    (x : InCallC s s.heap.objs.size (bindL (envOfC qual scope s.heap.objs.size f cd).kindOf (ps.zip us) fun _ => none) (cellsFrom (s.heap.objs.size + 1) scope.names []) (bindC (envOfC qual scope s.heap.objs.size f cd).kindOf (ps.zip us) fun _ => none) s1) :
    Inv (fm CX P w K mg base N qual scope f cd A outer s H E) [] (start N vs) H s1 := by
  have bQ : ps.length ≤ N.length := by have := congrArg List.length S.pre; rw [List.length_take] at this; omega
  obtain ⟨h1, tk, rfl, hk⟩ := x.done
  have Fq : ∀ b : Addr, b ∉ (fm CX P w K mg base N qual scope f cd A outer s H E).ex := fun b z => absurd (show b ∈ ([] : List Addr) from z) (by simp)
  refine ⟨⟨e0.mod, S.kind, rfl, rfl, Nat.le_refl _, fun y z c h1 h2 => ?_, fun y hy => ?_, fun y c _ h => ?_, fun _ => hd, Around.frames_deeper e0.frames, .inr ⟨rfl, rfl⟩, fun b z => absurd z (Fq b), e0.bs, e0.bsz, fun b _ _ => Fq b, fun b z => absurd z (Fq b), e0.funs, e0.frf⟩,
    rfl, ⟨e0.bare, Nat.le_refl _⟩, Un.kept hk, ⟨_, x.toInCall.ns, fun i y v h1 h2 h3 => ?_⟩, fun y c h => ⟨_, x.cell y c h⟩, e0.hok.fresh (Nat.le_refl _), fun y c h => ?_, fun p hp => absurd (show p ∈ ([] : List (Addr × Obj)) from hp) (by simp), e0.hok.kept hk, ?_⟩
  · exact name_of_addr x.apart (PySem.mem_of_lookup h1) (PySem.mem_of_lookup h2)
  · have hy : scope.names.lookup y = some .cell ∨ scope.names.lookup y = some .free := hy
    rcases hy with hy | hy
    · exact rX hy
    · exact absurd rfl (S.nofree _ (PySem.mem_of_lookup hy))
  · exact Nat.le_of_lt (x.above y c (PySem.mem_of_lookup h))
  · have hi : i < vs.length := by
      unfold start at h2
      by_cases hi : i < vs.length
      · exact hi
      · rw [List.getElem?_append_right (by simpa using hi)] at h2
        rw [List.getElem?_replicate] at h2
        split at h2 <;> cases h2
    have ha : vs[i]? = some v := by
      unfold start at h2
      rw [List.getElem?_append_left (by simpa using hi), List.getElem?_map] at h2
      cases e : vs[i]? with
      | none => rw [e] at h2; cases h2
      | some a => rw [e] at h2; cases h2; rfl
    obtain ⟨u, hu, rv⟩ := r.get ha
    have hp : ps[i]? = some y := by
      rw [← S.pre, List.getElem?_take_of_lt (by omega)]; exact h1
    have JQ : ps.Nodup := by rw [← S.pre]; exact S.nd.sublist (List.take_sublist _ _)
    refine ⟨u, rv, ?_⟩
    rcases S.par y (List.mem_of_getElem? hp) with k | k
    · exact .inl ⟨k, qg JQ hp hu k⟩
    · obtain ⟨c, e⟩ := rX (n := s.heap.objs.size + 1) k
      refine .inr ⟨.inl k, c, e, ?_⟩
      have q := x.cell y c e
      rw [qh JQ hp hu (by show scope.names.lookup y ≠ _; rw [k]; decide)] at q
      exact q
  · exact e0.hok.fresh (Nat.le_of_lt (x.above y c (PySem.mem_of_lookup h)))
  · unfold start
    show _ = N.length
    rw [List.length_append, List.length_map, List.length_replicate]
    omega
theorem vQ {CX : f9} {P : Program} {w : World} {K : PySem.W.Frag} {mg : Str → Option Value} {base : Heap} {k : Nat} {f : Addr} {name qual : Str} {params : Arguments} {body : List Stmt} {scope : Scope} {dV kV doc pm cm ct oc : Value} {an od : Option Addr}
    {jt : Array (Option Value)} {N ps : List Str} {sp : Sp} (lk : K.lookup f = some ⟨oc, od, .func (PySem.W.fnOf name qual params body scope dV kV doc pm an cm ct), jt⟩) (dA : PySem.W.codeIn K cm qual = true) (S : aQ N ps scope)
    (len : ∀ vs H Q E, sp vs H Q E → vs.length = ps.length)
    (j7 : ∀ (A : Around) (outer : List Env) (s : Shared) (H : Hp) (vs : List V) (Q : VK) (E : XK), bE k (A.deeper (envOfC qual scope s.heap.objs.size f cm)) → sp vs H Q E →
      ∃ t, fQ (fm CX P w K mg base N qual scope f cm A outer s H E) body t ∧ t { nx := fun _ H' => Q .aq H', rt := Q } (start N vs) H) :
    FnOk P w K mg base CX (k + 1) f (PySem.W.fnOf name qual params body scope dV kV doc pm an cm ct) ps sp := by
  refine ⟨len, fun A outer s H args us vs Q E hr e0 hb r ju => ?_⟩
  have hl := len _ _ _ _ ju
  have KX : K.In s.heap := e0.mod.kin.keeps fun b o e => (e0.bs b o e).1
  have lim : s.heap.NoLimit := e0.mod.nolimit.keeps fun b o e => (e0.bs b o e).1
  have me : ∀ y ∈ ps.zip us, scope.names.lookup y.1 = some .local ∨ (scope.names.lookup y.1 = some .cell ∧ ((cellsFrom (s.heap.objs.size + 1) scope.names []).lookup y.1).isSome = true) := fun ⟨n, v⟩ hy => by
    rcases S.par n (List.of_mem_zip hy).1 with q | q
    · exact .inl q
    · exact .inr ⟨q, PySem.W.cellsFrom_some _ _ _ (.inl q)⟩
  refine codeAny_call_function hr.depth (KX _ _ lk) rfl S.co S.gen rfl (PySem.W.codeRec_of KX dA) (hb _ _ _ _ ?_)
  refine wpAny_newFunctionEnv_cells S.kind me fun env he s1 x => ?_
  subst he
  refine ⟨lim.keeps x.toInCall.keep, codeAny_func ?_⟩
  obtain ⟨t, ht, hq⟩ := j7 A outer s H vs Q E (hr.deeper _) ju
  have I : Inv (fm CX P w K mg base N qual scope f cm A outer s H E) [] (start N vs) H s1 := yc S hr.hd e0 hl r x
  refine wpAny_mono (ht [] s1 (start N vs) H _ I hq) (fun fl s' hs => ?_) fun e s' hs => hs
  have fin : ∀ {aH : St} {H' : Hp} {v : V} {u : Value}, Inv (fm CX P w K mg base N qual scope f cm A outer s H E) [] aH H' s' → RelV v u → Q v H' → CE outer P w H s Q u s' :=
    fun {aH H' v u} J rv q => ⟨v, H', J.os, J.bare, J.base, J.hok, rv, q⟩
  cases fl with
  | ret u =>
    obtain ⟨v, aH, H', J, rv, q⟩ := hs
    exact fin J rv q
  | next =>
    obtain ⟨aH, H', J, q⟩ := hs
    exact fin (v := V.aq) (u := Value.none) J rfl q
  | brk =>
    obtain ⟨_, _, _, q⟩ := hs
    exact False.elim q
  | cont =>
    obtain ⟨_, _, _, q⟩ := hs
    exact False.elim q
section
variable {X : Cx} {x : Str} {p pos : Pos} {e : Expr} {es : List Expr} {t : TA} {id T : String} {r : List V → Hp → VK → Prop}
noncomputable def Fs (r : List V → Hp → VK → Prop) (t : TA) : TE := fun σ H Q => t σ H fun vs H1 => r vs H1 Q
theorem AF (hc : cW X (.builtin id) r) (hg : Gl X x) (hm : X.mg x = none) (hv : bootBuiltins x = some (.builtin id)) (ha : PA X (e :: es) t) (hn : x ≠ "__name__" := by decide) (eC : (x == ("__debug__" : Str)) = false := by decide)
    (he : starEach (e :: es) X.env = (false, eval e X.env) :: starEach es X.env := by rfl) (bQ : (backTo pos (starEach es X.env)).any (·.1) = false := by rfl) : PE X (.Call (.Name x p) (e :: es) [] pos) (Fs r t) := by
  refine ⟨?_⟩
  intro pins s σ H Q I h
  refine wpAny_Call_Name_kw (fZ I hg hm hv ?_ hn eC)
  exact PyProof.Rows.callWith_builtin1 (thn (ha pos pins s σ H _ I h) fun us s1 ⟨vs, H1, I1, r1, q1⟩ => hc pins s1 σ H1 vs us Q I1 r1 q1) he bQ
theorem ye (hc : cW X (.type T) r) (hg : Gl X x) (hm : X.mg x = none) (hv : bootBuiltins x = some (.type T)) (ha : PA X (e :: es) t) (hn : x ≠ "__name__" := by decide) (eC : (x == ("__debug__" : Str)) = false := by decide)
    (he : starEach (e :: es) X.env = (false, eval e X.env) :: starEach es X.env := by rfl) (bQ : (backTo pos (starEach es X.env)).any (·.1) = false := by rfl) : PE X (.Call (.Name x p) (e :: es) [] pos) (Fs r t) := by
  refine ⟨?_⟩
  intro pins s σ H Q I h
  refine wpAny_Call_Name_kw (fZ I hg hm hv ?_ hn eC)
  exact PyProof.Rows.callWith_type1 (thn (ha pos pins s σ H _ I h) fun us s1 ⟨vs, H1, I1, r1, q1⟩ => hc pins s1 σ H1 vs us Q I1 r1 q1) he bQ
end
end L2
namespace HT
open PySem PyProof.Rows
section
variable {prog : Program} {w : World} {A : Around} {E : Value → Shared → Prop} {s : Shared}
noncomputable def iT (n d : Nat) : Option Int → Nat
  | none => d
  | some v => if v < 0 then (v + (n : Int)).toNat else min v.toNat n
end
end HT
namespace L2
open PySem PySem.Spec PyProof.Rows
noncomputable abbrev TO := St → Hp → (Option Int → Hp → Prop) → Prop
section
variable {X : Cx} {e : Expr} {te : TE} {lo hi : Option Expr} {tl th : TO} {pos p2 : Pos}
noncomputable def Mu (X : Cx) (r : V → Option Int → Option Int → Hp → VK → Prop) : Prop :=
  ∀ (pins : List (Addr × Obj)) (s : Shared) (σ : St) (H : Hp) (x : V) (v vl vu : Value) (lo hi : Option Int) (sl : Addr) (Q : VK), Inv X pins σ H s → RelV x v → s.heap.IsSliceOf sl vl vu .none → IsPart vl lo → IsPart vu hi → r x lo hi H Q →
    ∃ T id, typeLookup (.type T) "__getitem__" = pure (some (.builtin id)) ∧ s.TypeIs v T ∧ wpAny (model X.prog X.w) X.A (getItem v (.ref sl)) (EP X pins σ Q) X.xe s
noncomputable def vR (xs : List V) (lo hi : Option Int) : List V := (xs.drop (HT.iT xs.length 0 lo)).take (HT.iT xs.length xs.length hi - HT.iT xs.length 0 lo)
theorem uh (xs : List V) (lo hi : Option Int) : (vR xs lo hi).length ≤ xs.length := by
  unfold vR
  rw [List.length_take, List.length_drop]
  omega
end
noncomputable def gW (n : Nat) (i : Int) : Option Nat := if 0 ≤ i then (if i < n then some i.toNat else none) else if -(n : Int) ≤ i then some (i + n).toNat else none
noncomputable def cZ {α : Type} (xs : List α) (i : Int) : Option α := (gW xs.length i).bind fun j => xs[j]?
theorem pj {n : Nat} {i : Int} {j : Nat} (h : gW n i = some j) : seqIndex? i n = some j ∧ j < n ∧ -(n : Int) ≤ i ∧ i < n := by
  unfold gW at h
  by_cases h0 : 0 ≤ i
  · rw [if_pos h0] at h
    by_cases h1 : i < n
    · rw [if_pos h1] at h
      have e : i.toNat = j := Option.some.inj h
      exact ⟨by rw [seqIndex_of h0 h1, e], by omega, by omega, h1⟩
    · rw [if_neg h1] at h; cases h
  · rw [if_neg h0] at h
    by_cases h1 : -(n : Int) ≤ i
    · rw [if_pos h1] at h
      have e : (i + n).toNat = j := Option.some.inj h
      exact ⟨by rw [seqIndex_neg (by omega) h1, e], by omega, h1, by omega⟩
    · rw [if_neg h1] at h; cases h
theorem pq {α : Type} {xs : List α} {i : Int} {v : α} (h : cZ xs i = some v) : ∃ j, seqIndex? i xs.length = some j ∧ xs[j]? = some v ∧ j < xs.length ∧ -(xs.length : Int) ≤ i ∧ i < xs.length := by
  unfold cZ at h
  cases e : gW xs.length i with
  | none => rw [e] at h; cases h
  | some j =>
    rw [e] at h
    obtain ⟨h1, h2, h3, h4⟩ := pj e
    exact ⟨j, h1, h, h2, h3, h4⟩
theorem dB {α : Type} {xs : List α} {j : Nat} {v : α} (h : xs[j]? = some v) : cZ xs (j : Int) = some v := by
  have hj : j < xs.length := (List.getElem?_eq_some_iff.mp h).1
  have e : gW xs.length (j : Int) = some j := by
    unfold gW
    rw [if_pos (by omega), if_pos (by omega)]; simp
  unfold cZ; rw [e]; exact h
noncomputable def uS (b : Expr) : Prop := ∀ o i, subscripted b false o i = operate [o, i] (getItem o i)
noncomputable def kS (X : Cx) (r : R2) : Prop :=
  ∀ (value slice : Expr) (pins : List (Addr × Obj)) (s : Shared) (σ : St) (H : Hp) (x y : V) (v u : Value) (Q : VK), Inv X pins σ H s → RelV x v → RelV y u → r x y H Q →
    subscripted slice false v u = operate [v, u] (getItem v u) → wpAny (model X.prog X.w) X.A (subscriptTail value slice v u) (EP X pins σ Q) X.xe s
noncomputable def Ft (X : Cx) (id : String) (r : V → List V → Hp → VK → Prop) : Prop :=
  ∀ (pins : List (Addr × Obj)) (s : Shared) (σ : St) (H : Hp) (x : V) (xs : List V) (v : Value) (us : List Value) (Q : VK), Inv X pins σ H s → RelV x v → Vals xs us → r x xs H Q →
    wpAny (model X.prog X.w) X.A (call (.builtin id) (v :: us)) (EP X pins σ Q) X.xe s
section
variable {X : Cx} {a b : Expr} {ta tb : TE} {pos : Pos}
theorem kS.or {r r' : R2} (h : kS X r) (h' : kS X r') : kS X (fun x y H Q => r x y H Q ∨ r' x y H Q) := by
  intro value slice pins s σ H x y v u Q I rx ry q hs
  rcases q with q | q
  · exact h value slice pins s σ H x y v u Q I rx ry q hs
  · exact h' value slice pins s σ H x y v u Q I rx ry q hs
theorem IE {r : R2} (hr : kS X r) (ha : PE X a ta) (hb : PE X b tb) (hs : uS b) : PE X (.Subscript a b pos) (xU r ta tb) := by
  refine ⟨?_⟩
  intro pins s σ H Q I h
  exact Subscript_ (Ar ha hb I h fun v u s2 x y H2 I2 rx ry q => hr a b pins s2 σ H2 x y v u Q I2 rx ry q (hs _ _))
noncomputable def Fu (K : PySem.W.Frag) : R2 := fun x y H Q => ∃ p xs i v, x = .ref p ∧ y = .int i ∧ bB K H p xs ∧ cZ xs i = some v ∧ Q v H
noncomputable def Fv (K : PySem.W.Frag) : R2 := fun x y H Q => ∃ p xs i v, x = .ref p ∧ y = .int i ∧ ck K H p xs ∧ cZ xs i = some v ∧ Q v H
noncomputable def Fw : R2 := fun x y H Q => ∃ z i c, x = .str z ∧ y = .int i ∧ z.length ≤ sizeLine ∧ cZ z.cps.toList i = some c ∧ Q (.str ⟨#[c]⟩) H
theorem Dm : kS X (Fu X.K) := by
  intro value slice pins s σ H x y v u Q I rx ry h hs
  obtain ⟨p, xs, i, z, rfl, rfl, hq, he, q⟩ := h
  cases rx
  obtain ⟨t, rfl⟩ := ry
  obtain ⟨its, r, pl, hz⟩ := I.list hq
  obtain ⟨j, h1, h2, h3, h4, h5⟩ := pq he
  obtain ⟨w, ew, jO⟩ := r.get h2
  have hl := r.length
  have hn := jN
  have fin : EP X pins σ Q w s := ⟨z, H, I, jO, q⟩
  by_cases h0 : 0 ≤ i
  · have hj : i.toNat = j := by
      rw [seqIndex_of h0 h5] at h1
      exact Option.some.inj h1
    exact item_listR pl.isList h0 (by omega) (by rw [hj]; simpa using ew) fin hs
  · have hj : (i + (its.toArray.size : Int)).toNat = j := by
      rw [seqIndex_neg (by omega) h4] at h1
      rw [List.size_toArray, ← hl]
      exact Option.some.inj h1
    exact subscriptTail_builtinR (x := w) pl.isList.typeIs slot_list_getitem.lookup
      (wpAny_getItem_list_neg (Q := fun r s' => r = w ∧ EP X pins σ Q r s') pl.isList (by omega) (by rw [List.size_toArray] <;> omega) (by omega) (by rw [hj]; simpa using ew) ⟨rfl, fin⟩) hs
theorem Fx : kS X (Fv X.K) := by
  intro value slice pins s σ H x y v u Q I rx ry h hs
  obtain ⟨p, xs, i, z, rfl, rfl, hq, he, q⟩ := h
  cases rx
  obtain ⟨t, rfl⟩ := ry
  obtain ⟨its, r, pl, hz⟩ := I.tuple hq
  obtain ⟨j, h1, h2, h3, h4, h5⟩ := pq he
  obtain ⟨w, ew, jO⟩ := r.get h2
  have hl := r.length
  have hn := jN
  have fin : EP X pins σ Q w s := ⟨z, H, I, jO, q⟩
  exact subscriptTail_builtinR (x := w) pl.typeIs slot_tuple_getitem.lookup
    (getItem_tuple (j := j) (Q := fun r s' => r = w ∧ EP X pins σ Q r s') pl (by omega) (by omega) (by rw [List.size_toArray, ← hl]; exact h1) (by simpa using ew) ⟨rfl, fin⟩) hs
theorem Fy : kS X Fw := by
  intro value slice pins s σ H x y v u Q I rx ry h hs
  obtain ⟨z, i, c, rfl, rfl, hz, he, q⟩ := h
  obtain ⟨t, rfl⟩ := rx
  obtain ⟨t', rfl⟩ := ry
  obtain ⟨j, h1, h2, h3, h4, h5⟩ := pq he
  have hl : z.cps.toList.length = z.length := by simp [Str.length]
  rw [hl] at h1 h4 h5
  have hn := jN
  exact tail_any (typeIs_str s z t) slot_str_getitem.lookup (getItem_str (c := c) (by
    have e1 : decide (i < -(2 ^ 63 : Int)) = false := decide_eq_false (by omega)
    have e2 : decide (i ≥ 2 ^ 63) = false := decide_eq_false (by omega)
    rw [e1, e2, Bool.or_false]) (by rw [h1]; simpa using h2) ⟨.str ⟨#[c]⟩, H, I.tok _, ⟨_, rfl⟩, q⟩) hs
noncomputable def JR (K : PySem.W.Frag) : R2 := fun x y H Q => Fu K x y H Q ∨ Fv K x y H Q ∨ Fw x y H Q
theorem FA : kS X (JR X.K) := Dm.or (Fx.or Fy)
theorem vS (its : List Value) (n j : Nat) (u : Value) : Obj.mapSeq (·.setIfInBounds j u) { cls := .type "list", data := .seq its.toArray n } = { cls := .type "list", data := .seq (its.set j u).toArray n } := by
  simp [Obj.mapSeq]
theorem Inv.lst {pins : List (Addr × Obj)} {σ : St} {H : Hp} {s : Shared} {p : Addr} {xs : List V} (I : Inv X pins σ H s) (h : H p = some (.lst xs)) :
    ∃ (its : List Value) (n : Nat), Vals xs its ∧ s.heap.get? p = some { cls := .type "list", data := .seq its.toArray n } ∧ xs.length ≤ sizeLine := by
  obtain ⟨z, its, n, r, e⟩ := I.hok p _ h
  exact ⟨its, n, r, e, z⟩
theorem Inv.FC {pins : List (Addr × Obj)} {σ : St} {H : Hp} {s : Shared} {p : Addr} {xs ys : List V} {its its' : List Value} {n n' : Nat} {f : Obj → Obj} (I : Inv X pins σ H s) (h : H p = some (.lst xs))
    (ho : s.heap.get? p = some { cls := .type "list", data := .seq its.toArray n }) (hf : f { cls := .type "list", data := .seq its.toArray n } = { cls := .type "list", data := .seq its'.toArray n' }) (r : Vals ys its') (hz : ys.length ≤ sizeLine) (t : Nat) :
    Inv X pins σ (upd H p (.lst ys)) { s with heap := s.heap.update p f, toks := t } := by
  have e : (s.heap.update p f).get? p = some { cls := .type "list", data := .seq its'.toArray n' } := by
    rw [Heap.get?_update_self f ho (by rw [hf] <;> rfl), hf]
  refine I.write (x := p) (e := p) (by rw [h]; trivial) (.inl rfl) (fun b u hb q => (Heap.get?_update_other _ _ (Ne.symm hb)).trans q) ⟨_, e⟩ ?_
  exact ⟨hz, its', n', r, e⟩
noncomputable def IG : V → V → V → Hp → (Hp → Prop) → Prop := fun o i v H Q => ∃ p xs k j, o = .ref p ∧ i = .int k ∧ H p = some (.lst xs) ∧ gW xs.length k = some j ∧ Q (upd H p (.lst (xs.set j v)))
theorem set_list : EX X IG := by
  intro pins s σ H o i v ov iv u Q I ro ri rv h
  obtain ⟨p, xs, k, j, rfl, rfl, hp, hj, q⟩ := h
  cases ro
  obtain ⟨t, rfl⟩ := ri
  obtain ⟨its, n, r, ho, hz⟩ := I.lst hp
  obtain ⟨h1, h2, h3, h4⟩ := pj hj
  have hl := r.length
  have hn := jN
  have I' : Inv X pins σ (upd H p (.lst (xs.set j v))) { s with heap := s.heap.update p (Obj.mapSeq (·.setIfInBounds j u)) } :=
    I.FC hp ho (vS its n j u) (r.set rv j) (by rw [List.length_set]; exact hz) s.toks
  by_cases h0 : 0 ≤ k
  · have hk : k.toNat = j := by
      rw [seqIndex_of h0 h4] at h1
      exact Option.some.inj h1
    exact PySem.W.ki_setAt ho h0 (by omega) (by rw [List.size_toArray, ← hl]; exact h4) (by rw [hk]; exact ⟨_, I', q⟩)
  · have hk : (k + (its.toArray.size : Int)).toNat = j := by
      rw [seqIndex_neg (by omega) h3] at h1
      rw [List.size_toArray, ← hl]
      exact Option.some.inj h1
    exact PySem.W.ki_setBack ho (by omega) (by rw [List.size_toArray, ← hl]; exact h3) (by omega) (by rw [hk]; exact ⟨_, I', q⟩)
theorem rY (lo hi : Option Int) (n : Nat) : (sliceBounds lo hi none n).1 = ((HT.iT n 0 lo : Nat) : Int) ∧ (sliceBounds lo hi none n).2.1 = ((HT.iT n n hi : Nat) : Int) ∧ (sliceBounds lo hi none n).2.2 = 1 := by
  refine ⟨?_, ?_, rfl⟩
  · cases lo with
    | none => simp [sliceBounds, HT.iT]
    | some i =>
      simp only [sliceBounds, HT.iT, Option.getD_none, show (1 : Int) > 0 by decide, if_true]
      by_cases h : i < 0
      · simp only [h, if_true] <;> omega
      · simp only [h, if_false] <;> omega
  · cases hi with
    | none => simp [sliceBounds, HT.iT]
    | some i =>
      simp only [sliceBounds, HT.iT, Option.getD_none, show (1 : Int) > 0 by decide, if_true]
      by_cases h : i < 0
      · simp only [h, if_true] <;> omega
      · simp only [h, if_false] <;> omega
theorem rh (its : List Value) (lo hi : Option Int) : slicePick its.toArray lo hi none = ((its.drop (HT.iT its.length 0 lo)).take (HT.iT its.length its.length hi - HT.iT its.length 0 lo)).toArray := by
  obtain ⟨h1, h2, h3⟩ := rY lo hi its.toArray.size
  unfold slicePick
  rw [h1, h2, h3]
  simp only [sliceRange_one, pick_run, List.size_toArray] <;> rfl
noncomputable def Lf (K : PySem.W.Frag) : V → Option Int → Option Int → Hp → VK → Prop := fun x lo hi H Q => ∃ a xs, x = .ref a ∧ bB K H a xs ∧ ∀ p, H p = none → Q (.ref p) (upd H p (.lst (vR xs lo hi)))
theorem Ml : Mu X (Lf X.K) := by
  intro pins s σ H x v vl vu lo hi sl Q I rx hs pl pu h
  obtain ⟨a, xs, rfl, hx, q⟩ := h
  cases rx
  obtain ⟨its, r, ht, hz⟩ := I.list hx
  have hlen := r.length
  refine ⟨"list", _, slot_list_getitem.lookup, ht.isList.typeIs, ?_⟩
  refine wpAny_getItem_list_slice ht.isList hs pl pu .none (by simp) ?_ (by rw [List.size_toArray] <;> omega)
  rw [rh, ← hlen]
  refine ⟨.ref s.heap.objs.size, _, I.laid (t' := s.toks) (o := .lst (vR xs lo hi)) (fun b ob q => Heap.get?_push_of_some _ q) (Nat.le_refl _) ?_, rfl, q _ (I.hok.fresh (Nat.le_refl _))⟩
  exact ⟨Nat.le_trans (uh xs lo hi) hz, _, 0, (r.drop (HT.iT xs.length 0 lo)).take (HT.iT xs.length xs.length hi - HT.iT xs.length 0 lo), Heap.get?_push_size _ rfl⟩
theorem rZ : cW X (.type "list") (fun xs H Q => ∃ p ys, xs = [.ref p] ∧ (bB X.K H p ys ∨ ck X.K H p ys) ∧ ∀ l, H l = none → Q (.ref l) (upd H l (.lst ys))) := by
  intro pins s σ H xs us Q I r h
  obtain ⟨p, ys, rfl, hq, q⟩ := h
  obtain ⟨u, rfl, rx⟩ := vals1 r
  cases rx
  have fin : ∀ (its : List Value), Vals ys its → ys.length ≤ sizeLine → ∀ (h' : Heap) (c' : Nat), (∀ b o', s.heap.get? b = some o' → h'.get? b = some o') →
      h'.get? s.heap.objs.size = some { cls := .type "list", dict := none, data := .seq its.toArray c', slots := #[] } → EP X pins σ Q (.ref s.heap.objs.size) { s with heap := h' } := fun its r' hz h' c' kp e =>
    ⟨.ref s.heap.objs.size, _, I.laid (t' := s.toks) kp (Nat.le_refl _) (show ObjOk X.prog X.w _ h' _ (.lst ys) from ⟨hz, its, c', r', e⟩), rfl, q _ (I.hok.fresh (Nat.le_refl _))⟩
  rcases hq with hq | hq
  · obtain ⟨its, r', pl, hz⟩ := I.list hq
    have hlen := r'.length
    obtain ⟨o, ho, hc, n, hd⟩ := pl.isList
    exact call_list_seq p (.inl rfl) ho hc hd (fun h' c' kp e => fin its r' hz h' c' kp e) (by simp only [List.size_toArray] <;> omega)
  · obtain ⟨its, r', pl, hz⟩ := I.tuple hq
    have hlen := r'.length
    obtain ⟨o, ho, hc, n, hd⟩ := pl
    exact call_list_seq p (.inr rfl) ho hc hd (fun h' c' kp e => fin its r' hz h' c' kp e) (by simp only [List.size_toArray] <;> omega)
theorem rj : cW X (.type "tuple") (fun xs H Q => ∃ p ys, xs = [.ref p] ∧ ((bB X.K H p ys ∧ ∀ l, H l = none → Q (.ref l) (upd H l (.tup ys))) ∨ (ck X.K H p ys ∧ Q (.ref p) H))) := by
  intro pins s σ H xs us Q I r h
  obtain ⟨p, ys, rfl, h⟩ := h
  obtain ⟨u, rfl, rx⟩ := vals1 r
  cases rx
  rcases h with ⟨hq, q⟩ | ⟨hq, q⟩
  · obtain ⟨its, r', pl, hz⟩ := I.list hq
    have hlen := r'.length
    refine call_tuple_list pl.isList (fun h' kp => ?_) (by simp only [List.size_toArray] <;> omega)
    have I1 : Inv X pins σ H { s with heap := h' } := I.kept (t' := s.toks) kp
    have I2 : Inv X pins σ (upd H h'.objs.size (.tup ys)) { s with heap := h'.push { cls := .type "tuple", data := .seq its.toArray } } :=
      I1.laid (t' := s.toks) (fun b o e => Heap.get?_push_of_some _ e) (Nat.le_refl _) (show ObjOk X.prog X.w _ _ _ (.tup ys) from ⟨hz, its, r', j6.new _ _⟩)
    exact ⟨.ref h'.objs.size, _, I2, rfl, q _ (I1.hok.fresh (Nat.le_refl _))⟩
  · obtain ⟨its, r', pl, hz⟩ := I.tuple hq
    exact call_tuple_same pl ⟨.ref p, H, I, rfl, q⟩
noncomputable def FD (K : PySem.W.Frag) (T : String) (x : V) (H : Hp) : Prop := match x with
  | .str _ => T = "str"
  | .int _ => T = "int"
  | .ref p => (T = "list" ∧ ∃ xs, bB K H p xs) ∨ (T = "tuple" ∧ ((∃ o, K.lookup p = some o ∧ o.cls = .type "tuple" ∧ o.dict = none) ∨ ∃ xs, H p = some (.tup xs))) ∨
      (T = "dict" ∧ ((∃ au, H p = some (.dK au)) ∨ ∃ au, H p = some (.dT au))) ∨ (T = "set" ∧ ∃ S n, H p = some (.set S n))
  | _ => False
theorem FE {pins : List (Addr × Obj)} {σ : St} {H : Hp} {s : Shared} {T : String} {x : V} {v : Value} (I : Inv X pins σ H s) (r : RelV x v) (ty : FD X.K T x H) :
    s.TypeIs v T ∧ ∀ a, v = .ref a → ∃ ob, s.heap.get? a = some ob ∧ ob.dict = none := by
  cases x with
  | str z =>
    obtain ⟨t, rfl⟩ := r
    cases (show T = "str" from ty)
    exact ⟨typeIs_str s z t, fun _ e => nomatch e⟩
  | int i =>
    obtain ⟨t, rfl⟩ := r
    cases (show T = "int" from ty)
    exact ⟨typeIs_int s i t, fun _ e => nomatch e⟩
  | ref p =>
    cases r
    rcases ty with ⟨rfl, xs, hq⟩ | ⟨rfl, ⟨o, hk, hc, hd⟩ | ⟨xs, hk⟩⟩ | ⟨rfl, hk⟩ | ⟨rfl, S, n, hk⟩
    · obtain ⟨its, _, pl, _⟩ := I.list hq
      refine ⟨pl.isList.typeIs, fun a e => ?_⟩
      cases e
      obtain ⟨o, n, e, c, hd, _⟩ := pl
      exact ⟨o, e, hd⟩
    · refine ⟨⟨o, I.fY p o hk, hc⟩, fun a e => ?_⟩
      cases e
      exact ⟨o, I.fY _ o hk, hd⟩
    · obtain ⟨_, its, _, o, e, c, n, d, hd⟩ := I.hok p _ hk
      refine ⟨⟨o, e, c⟩, fun a e2 => ?_⟩
      cases e2
      exact ⟨o, e, hd⟩
    · have z : ∃ o, s.heap.get? p = some o ∧ o.ExactDict := by
        rcases hk with ⟨au, hk⟩ | ⟨au, hk⟩
        · obtain ⟨_, _, _, _, o, _, _, e, ex, _⟩ := I.hok p _ hk
          exact ⟨o, e, ex⟩
        · obtain ⟨_, _, _, _, o, _, _, e, ex, _⟩ := I.hok p _ hk
          exact ⟨o, e, ex⟩
      obtain ⟨o, e, ex⟩ := z
      refine ⟨⟨o, e, ex.1⟩, fun a e2 => ?_⟩
      cases e2
      exact ⟨o, e, ex.2.1⟩
    · obtain ⟨o, _, _, _, e, ex, _⟩ := I.hok p _ hk
      refine ⟨⟨o, e, ex.1⟩, fun a e2 => ?_⟩
      cases e2
      exact ⟨o, e, ex.2.1⟩
  | _ => exact False.elim ty
noncomputable def JS (K : PySem.W.Frag) (T : String) (r : V → List V → Hp → VK → Prop) (to : TE) (t : TA) : TE := fun σ H Q => to σ H fun x H1 => FD K T x H1 ∧ t σ H1 fun xs H2 => r x xs H2 Q
variable {o e : Expr} {es : List Expr} {to : TE} {t : TA} {name : Str} {apos aY : Pos} {T id : String} {r : V → List V → Hp → VK → Prop}
theorem IH (pa : PlainAttrs T) (slot : Slot T name id) (yf : typeOf (.builtin id) = pure (.type "method_descriptor")) (hm : Ft X id r) (ho : PE X o to) (ha : PA X (e :: es) t)
    (n6 : attributeBase o name X.env (eval o X.env) = eval o X.env := by rfl)
    (sd : ((backTo aY (starEach (e :: es) X.env)).all (fun x => !x.1) && (backToKw aY (keywordEach [] X.env)).all (fun x => x.1.isSome)
      && decide ((e :: es).length + ([] : List Keyword).length + (if ([] : List Keyword).isEmpty then 0 else 1) < 30)) = true := by rfl)
    (hline : (apos.endLine == aY.line) = true := by rfl) (hs : starEach (e :: es) X.env = (false, eval e X.env) :: starEach es X.env := by rfl) (kU : (backTo aY (starEach es X.env)).any (·.1) = false := by rfl) :
    PE X (.Call (.Attribute o name apos) (e :: es) [] aY) (JS X.K T r to t) := by
  refine ⟨?_⟩
  intro pins s σ H Q I h
  refine wpAny_Call_method_late n6 sd hline rfl (thn (ho pins s σ H _ I h) fun v s1 ⟨x, H1, I1, r1, ty, q1⟩ => ?_)
  obtain ⟨h1, h2⟩ := FE I1 r1 ty
  refine ⟨T, id, pa, slot, yf, h1, h2, ?_⟩
  have hA := ha aY pins s1 σ H1 _ I1 q1
  rw [hs] at hA ⊢
  refine Calls.callWith_builtin (by show (false || (backTo aY (starEach es X.env)).any (·.1)) = false; rw [kU] <;> rfl) (Calls.evalArgs_plain ?_)
  exact thn hA fun us s2 ⟨vs, H2, I2, r2, q2⟩ => hm pins s2 σ H2 x vs v us Q I2 r1 r2 q2
end
noncomputable def FG (X : Cx) (id : String) (r : V → List V → Hp → VK → Prop) : Prop :=
  ∀ (pins : List (Addr × Obj)) (s : Shared) (σ : St) (H : Hp) (x : V) (xs : List V) (v : Value) (us : List Value) (Q : VK), Inv X pins σ H s → RelV x v → Vals xs us → r x xs H Q →
    wpAny (model X.prog X.w) X.A (call (.builtin id) (v :: us)) (EP X pins σ Q) X.xe s
theorem Vals.one : ∀ {x : V} {us : List Value}, Vals [x] us → ∃ u, us = [u] ∧ RelV x u
  | _, _, .cons r .nil => ⟨_, rfl, r⟩
theorem Vals.eraseIdx : ∀ {xs : List V} {us : List Value} (i : Nat), Vals xs us → Vals (xs.eraseIdx i) (us.eraseIdx i)
  | _, _, _, .nil => .nil
  | _, _, 0, .cons _ t => t
  | _, _, i + 1, .cons r t => .cons r (Vals.eraseIdx i t)
theorem qi {α : Type} : ∀ (l : List α) (i : Nat), (l.eraseIdx i).length ≤ l.length
  | [], _ => Nat.le_refl _
  | _ :: _, 0 => Nat.le_succ _
  | _ :: r, i + 1 => Nat.succ_le_succ (qi r i)
section
variable {X : Cx} {pins : List (Addr × Obj)} {σ : St} {H : Hp} {s : Shared} {l b : Addr} {xs ys zs : List V}
theorem Inv.AG {its its' : List Value} {n : Nat} {f : Array Value → Array Value} {t' : Nat} (I : Inv X pins σ H s) (hH : H l = some (.lst xs))
    (e : s.heap.get? l = some { cls := .type "list", data := .seq its.toArray n }) (hf : f its.toArray = its'.toArray) (hv : Vals ys its') (hz : ys.length ≤ sizeLine) :
    Inv X pins σ (upd H l (.lst ys)) { s with heap := s.heap.update l (Obj.mapSeq f), toks := t' } := by
  have q := PySem.IsL.update e f
  rw [hf] at q
  refine I.write (x := l) (e := l) (by rw [hH]; exact trivial) (.inl rfl) (fun b' u hb hu => (Heap.get?_update_other s.heap (Obj.mapSeq f) (Ne.symm hb)).trans hu) ⟨_, q⟩ ?_
  exact ⟨hz, its', _, hv, q⟩
theorem Inv.Lg {its : List Value} {t' : Nat} (I : Inv X pins σ H s) (hv : Vals ys its) (hz : ys.length ≤ sizeLine) :
    Inv X pins σ (upd H s.heap.objs.size (.lst ys)) { s with heap := s.heap.push { cls := .type "list", data := .seq its.toArray }, toks := t' } :=
  I.laid (fun _ _ q => Heap.get?_push_of_some _ q) (Nat.le_refl _) ⟨hz, its, 0, hv, Heap.get?_push_size _ rfl⟩
theorem Inv.fresh (I : Inv X pins σ H s) : H s.heap.objs.size = none := I.hok.fresh (Nat.le_refl _)
theorem Inv.pw (I : Inv X pins σ H s) (hH : H l = some (.lst xs)) : xs.length ≤ sizeLine ∧ ∃ (its : List Value) (n : Nat), Vals xs its ∧ xs.length = its.length ∧ s.heap.get? l = some { cls := .type "list", data := .seq its.toArray n } := by
  obtain ⟨z, its, n, r, e⟩ := I.hok l _ hH
  exact ⟨z, its, n, r, r.length, e⟩
theorem AH {n : Nat} (h : n ≤ sizeLine) : Builtin.List.listTooLong n = false := by
  unfold Builtin.List.listTooLong
  exact decide_eq_false (by omega)
end
section
variable {X : Cx}
noncomputable def Dn : V → List V → Hp → VK → Prop := fun x vs H Q => ∃ l xs y, x = .ref l ∧ vs = [y] ∧ H l = some (.lst xs) ∧ xs.length < sizeLine ∧ Q .aq (upd H l (.lst (xs ++ [y])))
theorem kW : FG X "list.append" Dn := by
  intro pins s σ H x vs v us Q I rx rv h
  obtain ⟨l, xs, y, rfl, rfl, hH, hz, q⟩ := h
  cases rx
  obtain ⟨u, rfl, ru⟩ := rv.one
  obtain ⟨z, its, n, r, hl, e⟩ := I.pw hH
  refine call_meets F.slot_list_append ⟨_, e, rfl⟩ F.entry_list_append (F.args_list_append_2 _ _) (PySem.list_append l its.toArray n u (by rw [List.size_toArray]; omega)) ⟨e, ?_⟩
  refine ⟨.aq, _, I.AG (its' := its ++ [u]) hH e (by simp) (r.append (.cons ru .nil)) ?_, rfl, q⟩
  rw [List.length_append, List.length_singleton]
  omega
noncomputable def Dp : V → List V → Hp → VK → Prop := fun x vs H Q => ∃ l b xs zs, x = .ref l ∧ vs = [.ref b] ∧ H l = some (.lst xs) ∧ H b = some (.lst zs) ∧ xs.length + zs.length ≤ sizeLine ∧ Q .aq (upd H l (.lst (xs ++ zs)))
theorem JT : FG X "list.extend" Dp := by
  intro pins s σ H x vs v us Q I rx rv h
  obtain ⟨l, b, xs, zs, rfl, rfl, hH, hB, hz, q⟩ := h
  cases rx
  obtain ⟨u, rfl, ru⟩ := rv.one
  cases ru
  obtain ⟨z, its, n, r, hl, e⟩ := I.pw hH
  obtain ⟨z2, b7, n2, r2, gA, e2⟩ := I.pw hB
  have hsz : its.toArray.size + b7.toArray.size ≤ sizeLine := by rw [List.size_toArray, List.size_toArray]; omega
  have II : ¬ (!its.toArray.isEmpty && Builtin.List.listTooLong (its.toArray.size + b7.toArray.size)) = true := by
    rw [AH hsz, Bool.and_false]
    exact Bool.false_ne_true
  refine call_meets F.slot_list_extend ⟨_, e, rfl⟩ F.entry_list_extend (F.args_list_extend_2 _ _)
    (AutoSeq1.list_extend_list_list_0 l its.toArray n b b7.toArray n2 II (by rw [List.size_toArray]; omega) (by omega)) ⟨e, e2, ?_⟩
  refine ⟨.aq, _, I.AG (its' := its ++ b7) hH e (by simp) (r.append r2) ?_, rfl, q⟩
  rw [List.length_append]
  omega
noncomputable def FH : V → List V → Hp → VK → Prop := fun x vs H Q => ∃ l xs i k y, x = .ref l ∧ vs = [.int i] ∧ H l = some (.lst xs) ∧ -(2 ^ 63) ≤ i ∧ i < 2 ^ 63 ∧ seqIndex? i xs.length = some k ∧ xs[k]? = some y ∧ Q y (upd H l (.lst (xs.eraseIdx k)))
theorem AI : FG X "list.pop" FH := by
  intro pins s σ H x vs v us Q I rx rv h
  obtain ⟨l, xs, i, k, y, rfl, rfl, hH, h1, h2, hk, hy, q⟩ := h
  cases rx
  obtain ⟨u, rfl, ru⟩ := rv.one
  obtain ⟨t, rfl⟩ := ru
  obtain ⟨z, its, n, r, hl, e⟩ := I.pw hH
  obtain ⟨w, hw, jO⟩ := r.get hy
  refine call_meets F.slot_list_pop ⟨_, e, rfl⟩ F.entry_list_pop (F.args_list_pop_2 _ _)
    (MeetsSeq.list_pop_at l its.toArray n i t k w (fitsIndex_both h1 h2) (by rw [List.size_toArray, ← hl]; exact hk) (by rw [← Array.getElem?_toList]; exact hw) (by rw [List.size_toArray]; omega)) ⟨e, ?_⟩
  refine ⟨y, _, I.AG (its' := its.eraseIdx k) hH e ?_ (r.eraseIdx k) ?_, jO, q⟩
  · show its.toArray.eraseIdxIfInBounds k = (its.eraseIdx k).toArray
    rw [List.eraseIdxIfInBounds_toArray]
  · have := qi xs k
    omega
noncomputable def Lh : R2 := fun x y H Q => ∃ l b xs zs, x = .ref l ∧ y = .ref b ∧ H l = some (.lst xs) ∧ H b = some (.lst zs) ∧ xs.length + zs.length ≤ sizeLine ∧ ∀ p, H p = none → Q (.ref p) (upd H p (.lst (xs ++ zs)))
theorem FI : OpR X (binaryOp .Add) Lh := by
  intro pins s σ H x y v u Q I rx ry h
  obtain ⟨l, b, xs, zs, rfl, rfl, hH, hB, hz, q⟩ := h
  cases rx
  cases ry
  obtain ⟨z, its, n, r, hl, e⟩ := I.pw hH
  obtain ⟨z2, b7, n2, r2, gA, e2⟩ := I.pw hB
  refine PySem.P.add_list e e2 ?_ (by rw [List.size_toArray, List.size_toArray]; omega)
  have ea : its.toArray ++ b7.toArray = (its ++ b7).toArray := by simp
  rw [ea]
  exact ⟨.ref _, _, I.Lg (t' := s.toks) (r.append r2) (by rw [List.length_append]; omega), rfl, q _ I.fresh⟩
end
end L2
namespace JU
open PySem PySem.W PySem.Calls PyProof.Rows
theorem n8 {P : Params} {h : Heap} : ∀ (ns : List Int) (vs : List Value), WellAll P h vs (ns.map WData.int) → IntsAre vs ns := by
  intro ns
  induction ns with
  | nil =>
    intro vs w
    rw [List.map_nil] at w
    cases w
    exact .nil
  | cons n ns ih =>
    intro vs w
    rw [List.map_cons] at w
    cases w with
    | cons a b =>
      cases a
      exact .cons _ _ (ih _ b)
theorem yg {l : OpenLaw} {n : Nat} (hn : l.most = some n) {P : Params} {h : Heap} {args : List WData} {vals : List Value}
    (vT : l.row.toRowW.claim.pre args = true) (yh : WellAll P h vals args) :
    ∃ a vs ns, vals = [Value.ref a] ∧ args = [WData.list (ns.map WData.int)] ∧ h.get? a = some { cls := .type "list", data := .seq vs.toArray } ∧ IntsAre vs ns ∧ ns.length ≤ n := by
  have Mv : WShape.hasAll [] args [.list .int] = true := (pre_splitW vT).1
  have hc : l.pre.holds [] { args := args } = true := (pre_splitW vT).2
  obtain ⟨d, r, rfl, h1, h2⟩ := hasAllW_cons Mv
  obtain rfl := hasAllW_nil h2
  obtain ⟨xs, rfl, h3⟩ := hasW_list h1
  obtain ⟨ns, rfl⟩ := items_int h3
  have hlen : ns.length ≤ n := by
    unfold OpenLaw.pre at hc
    have h4 : (WTm.not (.lt (.lit (.int (n : Int))) (.len (.arg 0)))).holds [] { args := [.list (ns.map .int)] } = true := by
      have h4 := (holds_andW hc).1
      rw [hn] at h4
      exact h4
    have h5 := condW_of h4 (w_not (w_lt w_lit (w_len_list (w_arg rfl))))
    rw [List.length_map] at h5
    refine Nat.le_of_not_lt fun q => ?_
    have q' : (n : Int) < ((ns.length : Nat) : Int) := by omega
    first
      | (rw [decide_eq_true q'] at h5; exact absurd h5 (by decide))
      | (simp at h5; omega)
  cases yh with
  | cons w1 w2 =>
    cases w2
    cases w1 with
    | list ho Li => exact ⟨_, _, ns, rfl, rfl, ho, n8 ns _ Li, hlen⟩
theorem yi (l : OpenLaw) (args : List WData) : l.row.toRowW.claim.post args (.bool true) args = true :=
  postW_of (r := l.row.toRowW) (X := (true == true))
    (show WShape.has [] (.bool true) .bool = true by first | rfl | decide | simp [WShape.has, WShape.arms, WShape.armsAll])
    (show (WTm.eq .res (.lit (.bool true))).value [] { args := args, res := some (.bool true), after := args } = some (.bool (true == true)) from w_eq_bool (w_res rfl) w_lit) rfl
theorem ui {l : OpenLaw} {n : Nat} {q : Program} {loose : List Str} {XP : (Str → Option Value) → Heap → Prop} {YP : World → Heap → Prop} {d : DefRec}
    (hn : l.most = some n) (yj : d.params.defaults = [])
    (call : ∀ (w : World) (s₀ az : Shared) (mg mb : Str → Option Value) (fa : Addr) (o : Obj) (pm cd doc : Value) (a : Addr) (vs : List Value) (ns : List Int),
      Ground q loose [] XP w s₀ mg mb az.heap → YP w az.heap →
      az.heap.get? fa = some o → o.data = .func (docDef d.name d.params d.body d.scope pm cd doc) → az.heap.CodeRec cd d.name → mg d.name = some (.ref fa) →
      az.heap.get? a = some { cls := .type "list", data := .seq vs.toArray } → IntsAre vs ns → ns.length ≤ n → az.gens = #[] →
      codeAny (model l.prog w) callerA (.call (.ref fa) ⟨[.ref a], []⟩) (fun r s' => r = .ok (.ret (.bool true)) ∧ OldK az.heap s'.heap ∧ s'.os = az.os ∧ AllBare s'.gens) az) :
    WalkO q loose XP YP l.row.toRowW d [] (fun f vs => PySem.call f vs) := by
  intro w s₀ az mg mb G Y fa o pm cd doc dV kV ho hd dA hD yk hg args vals as vT OI OV yh OW
  obtain rfl : dV = .none := Dflts.none hD yj
  obtain rfl : kV = .none := Dflts.noKw hD
  obtain ⟨a, vs, ns, rfl, rfl, AJ, hints, hlen⟩ := yg hn vT yh
  refine enter_call (codeAny_mono (call w s₀ az mg mb fa o pm cd doc a vs ns G Y ho (fd_plain hd) dA yk AJ hints hlen hg) fun r s' hq => ?_)
  obtain ⟨rfl, h2, h3, h4⟩ := hq
  exact ⟨.inl ⟨.bool true, .bool true, [], rfl, fun _ => rfl, .bool true, yi l _, fun _ => ⟨List.Pairwise.nil, fun _ hm => (nomatch hm)⟩⟩, h2, h3, h4⟩
end JU
namespace L2
open PySem PySem.Spec PyProof.Rows
theorem qj : ∀ {vs : List Value} {ns : List Int}, IntsAre vs ns → Vals (ns.map V.int) vs
  | _, _, .nil => .nil
  | _, _, .cons n t h => .cons ⟨t, rfl⟩ (qj h)
noncomputable def cE (s : Stmt) : Arguments := match s with
  | .FunctionDef _ a _ _ _ _ _ _ _ _ => a
  | _ => { posonlyargs := [], args := [], vararg := none, kwonlyargs := [], kw_defaults := [], kwarg := none, defaults := [] }
noncomputable def bz (s : Stmt) : List Stmt := match s with
  | .FunctionDef _ _ b _ _ _ _ _ _ _ => b
  | _ => []
noncomputable def ai (s : Stmt) : Scope := match s with
  | .FunctionDef _ _ _ _ _ _ sc _ _ _ => sc
  | _ => { kind := .function, names := [], isGenerator := false, isCoroutine := false }
noncomputable abbrev bf : f9 := fun _ _ _ _ _ _ => False
noncomputable abbrev E0 : XK := fun _ _ _ => False
theorem bb {X : Cx} : Passes bf X E0 := fun _ _ _ _ _ _ _ h => h.elim
structure qk (K : PySem.W.Frag) (x qual : Str) (st : Stmt) (f : Addr) (fd : FuncData) : Prop where
  ex : ∃ (oc : Value) (od : Option Addr) (kV doc pm : Value) (an : Option Addr) (cm ct : Value) (jt : Array (Option Value)),
    fd = PySem.W.fnOf x qual (cE st) (bz st) (ai st) .none kV doc pm an cm ct ∧ K.lookup f = some ⟨oc, od, .func fd, jt⟩ ∧ PySem.W.codeIn K cm qual = true
  kp : PySem.W.keepIn K (.ref f) = true
section
variable {P : Program} {w : World} {K : PySem.W.Frag} {mg : Str → Option Value} {base : Heap}
theorem qk.binds {x qual : Str} {st : Stmt} {f : Addr} {fd : FuncData} {ps : List Str} (F : qk K x qual st f fd)
    (h : ∀ (kV doc pm : Value) (an : Option Addr) (cm ct : Value) (us : List Value), us.length = ps.length → bindArgs (PySem.W.fnOf x qual (cE st) (bz st) (ai st) .none kV doc pm an cm ct) ⟨us, []⟩ = pure (ps.zip us)) : Binds K fd ps [] := by
  obtain ⟨oc, od, kV, doc, pm, an, cm, ct, jt, rfl, lk, dA⟩ := F.ex
  exact .all (h kV doc pm an cm ct)
theorem FJ {x qual : Str} {st : Stmt} {f : Addr} {oc : Value} {od an : Option Addr} {jt : Array (Option Value)} {kV doc pm cm ct : Value} (l : K.lookup f = some ⟨oc, od, .func (PySem.W.fnOf x qual (cE st) (bz st) (ai st) .none kV doc pm an cm ct), jt⟩)
    (c : PySem.W.codeIn K cm qual = true) (k : PySem.W.keepIn K (.ref f) = true) : qk K x qual st f (PySem.W.fnOf x qual (cE st) (bz st) (ai st) .none kV doc pm an cm ct) := ⟨⟨oc, od, kV, doc, pm, an, cm, ct, jt, rfl, l, c⟩, k⟩
end
section
variable {X : Cx}
theorem pv (i : Nat) {x : Str} {pos : Pos} (hN : X.N[i]? = some x := by rfl) (hv : mH X.env.scope x := by first | exact Or.inl rfl | exact Or.inr (Or.inl rfl) | exact Or.inr (Or.inr rfl)) (hd : (x == ("__debug__" : Str)) = false := by decide)
    (dA : (x == ("__classdict__" : Str)) = false := by decide) : PE X (.Name x pos) (ED i) := rS hN hv hd dA
end
end L2
set_option maxHeartbeats 4000000
namespace L2
open PySem PySem.Spec PyProof.Rows
theorem j8 {env : Env} : ∀ (names : List (Str × NameKind)) (acc : List (Str × Addr)), (∀ n, (n, NameKind.free) ∈ names → ∃ c, env.cells.lookup n = some c) →
    (∀ n c, acc.lookup n = some c → env.cells.lookup n = some c) →
    ∃ cl, (forIn names acc fun x r => if (x.2 == NameKind.free) = true then (do let a ← cellOf env x.1; pure (ForInStep.yield ((x.1, a) :: r))) else pure (ForInStep.yield r) : Sem (List (Str × Addr))) = pure cl ∧
      (∀ n c, cl.lookup n = some c → env.cells.lookup n = some c) ∧ (∀ n, (n, NameKind.free) ∈ names → ∃ c, cl.lookup n = some c) ∧ (∀ n c, acc.lookup n = some c → ∃ c', cl.lookup n = some c')
  | [], acc, _, h2 => ⟨acc, rfl, h2, fun n h => by simp at h, fun n c h => ⟨c, h⟩⟩
  | (n, k) :: r, acc, h1, h2 => by
    rw [List.forIn_cons]
    cases hk : (k == NameKind.free) with
    | true =>
      have ek : k = NameKind.free := by simpa using hk
      subst ek
      obtain ⟨c, hc⟩ := h1 n List.mem_cons_self
      have e1 : cellOf env n = pure c := by unfold cellOf; rw [hc]
      obtain ⟨cl, e, a1, a2, a3⟩ := j8 r ((n, c) :: acc) (fun m hm => h1 m (List.mem_cons_of_mem _ hm)) (fun m c' hm => by
        rw [List.lookup_cons] at hm
        cases hb : m == n with
        | true =>
          rw [hb] at hm
          have e2 : m = n := by simpa using hb
          rw [e2, hc]; exact hm
        | false => rw [hb] at hm; exact h2 m c' hm)
      refine ⟨cl, ?_, a1, fun m hm => ?_, fun m c' hm => ?_⟩
      · simp only [if_true, e1]
        exact e
      · rcases List.mem_cons.mp hm with z | z
        · cases z
          exact a3 n c (by rw [List.lookup_cons]; simp)
        · exact a2 m z
      · by_cases hb : m = n
        · subst hb
          exact a3 m c (by rw [List.lookup_cons]; simp)
        · exact a3 m c' (by
            rw [List.lookup_cons]
            have : (m == n) = false := by simpa using hb
            rw [this]; exact hm)
    | false =>
      obtain ⟨cl, e, a1, a2, a3⟩ := j8 r acc (fun m hm => h1 m (List.mem_cons_of_mem _ hm)) h2
      refine ⟨cl, ?_, a1, fun m hm => ?_, a3⟩
      · simp only [Bool.false_eq_true, if_false]
        exact e
      · rcases List.mem_cons.mp hm with z | z
        · cases z; simp at hk
        · exact a2 m z
theorem eV {scope : Scope} {env : Env} (h : ∀ n, (n, NameKind.free) ∈ scope.names → ∃ c, env.cells.lookup n = some c) :
    ∃ cl, closureFor scope env = pure cl ∧ (∀ n c, cl.lookup n = some c → env.cells.lookup n = some c) ∧ (∀ n, (n, NameKind.free) ∈ scope.names → ∃ c, cl.lookup n = some c) := by
  obtain ⟨cl, e, a1, a2, _⟩ := j8 (env := env) scope.names [] h (fun n c hn => by simp at hn)
  refine ⟨cl, ?_, a1, a2⟩
  simp only [closureFor]
  rw [e]
  rfl
noncomputable def cxBlock (X : Cx) (N' : List Str) (env' : Env) (A' : Around) (stack' : List Env) (s : Shared) (H : Hp) (ex : List Addr) : Cx :=
  { X with N := N', s₀ := s, H₀ := H, env := env', A := A', outer := X.stack, stack := stack', ex := ex, fn := fun _ => false, pn := [], xe := fun _ _ => False }
theorem kX {X : Cx} {pins : List (Addr × Obj)} {σ aH : St} {H H' : Hp} {s : Shared} {N' : List Str} {env' : Env} {A' : Around} {stack' : List Env} {ex : List Addr} {h1 : Heap} {m0 : Str → Option Value} {g' : Array GenState} {tk : Nat}
    (I : Inv X pins σ H s) (me : env'.scope.kind = .function) (IJ : env'.globals = X.env.globals) (Lj : env'.builtins = X.env.builtins)
    (cP : ∀ n c, env'.cells.lookup n = some c → X.env.cells.lookup n = some c)
    (m6 : ∀ x, (env'.kindOf x = some .cell ∨ env'.kindOf x = some .free) → ∃ c, env'.cells.lookup x = some c)
    (hh : X.calm = true → A'.handled = none) (yl : A'.frames = some stack') (Lk : stack' = X.stack ∨ (stack' = env' :: X.stack ∧ env'.frame = some env'.locals))
    (hC : s.heap.objs.size ≤ env'.locals) (hf : ∀ b ∈ ex, cS X pins H b) (vU : ∀ b ∈ ex, b < s.heap.objs.size)
    (ym : Un (dN X.stack) ex H H' s.heap h1) (hok : cc X.prog X.w H' h1) (oe : H' env'.locals = none) (og : ∀ b o, s.heap.get? b = some o → h1.get? b = some o) (fR : h1.Ns env'.locals m0)
    (se : ∀ (i : Nat) (x : Str) (v : V), N'[i]? = some x → aH[i]? = some (some v) → mH env'.scope x → (env'.kindOf x = some .cell ∨ env'.kindOf x = some .free) ∧ mH X.env.scope x ∧ (X.env.kindOf x = some .cell ∨ X.env.kindOf x = some .free) ∧ ∃ j : Nat, X.N[j]? = some x ∧ σ[j]? = some (some v))
    (hlen : aH.length = N'.length) (hg : Gn s.gens.size g') : Inv (cxBlock X N' env' A' stack' s H ex) [] aH H' { s with heap := h1, gens := g', toks := tk } := by
  have yn : ∀ b ∈ ex, ∀ x c, X.env.cells.lookup x = some c → c ≠ b := fun b hb => (hf b hb).2.2.2.2.1
  refine ⟨⟨I.ok.mod, me, IJ.trans I.ok.glob, Lj.trans I.ok.blt, hC, fun x y c a b => I.ok.inj x y c (cP x c a) (cP y c b), m6, fun _ _ z => (nomatch z), hh, yl, Lk, fun b hb => ⟨Nat.ne_of_lt (Nat.lt_of_lt_of_le (vU b hb) hC), fun x c e => yn b hb x c (cP x c e)⟩,
      I.bs, Nat.le_trans I.ok.bsz I.sz, fun b o e hb => ?_, fun b hb z => ?_, I.stack, I.jM⟩, rfl, hg, ym, ⟨m0, fR, fun i x v e1 e2 e3 => ?_⟩, fun x c e => ?_, oe, fun x c e => ?_, fun p hp => absurd (show p ∈ ([] : List (Addr × Obj)) from hp) (by simp), hok, hlen⟩
  · rcases (hf b hb).2.2.2.1 with z | z
    · exact I.ok.noex b o e z
    · exact absurd (Nat.lt_of_lt_of_le (Heap.lt_size e) (Nat.le_trans I.ok.bsz z)) (Nat.lt_irrefl _)
  · rcases List.mem_cons.mp (I.eB b z) with q | q
    · exact (hf b hb).2.1 q
    · exact (hf b hb).2.2.1 q
  · obtain ⟨k1, vx, k2, j, n1, n2⟩ := se i x v e1 e2 e3
    obtain ⟨m, hn, hl⟩ := I.loc
    obtain ⟨u, r, l⟩ := hl j x v n1 n2 vx
    refine ⟨u, r, .inr ⟨k1, ?_⟩⟩
    obtain ⟨c', yo⟩ := m6 x k1
    rcases l with ⟨kl, _⟩ | ⟨_, c, ec, z⟩
    · rcases k2 with q | q <;> (rw [kl] at q; cases q)
    · have : c' = c := Option.some.inj ((cP x c' yo).symm.trans ec)
      subst this
      exact ⟨c', yo, z.keeps og⟩
  · obtain ⟨v, z⟩ := I.cell x c (cP x c e)
    exact ⟨v, z.keeps og⟩
  · obtain ⟨v, o, ho, hd⟩ := I.cell x c (cP x c e)
    exact ym.free c o ho (I.freeC x c (cP x c e)) fun z => yn c z x c (cP x c e) rfl
theorem lookup_map2 {c : Str → NameKind → NameKind} : ∀ {names : List (Str × NameKind)} {x : Str}, (names.map fun (p : Str × NameKind) => (p.1, c p.1 p.2)).lookup x = (names.lookup x).map (c x)
  | [], x => rfl
  | (n, k') :: r, x => by
    have ih := @lookup_map2 c r x
    rw [List.map_cons, List.lookup_cons, List.lookup_cons]
    cases hx : x == n with
    | true =>
      have e : x = n := by simpa using hx
      subst e
      rfl
    | false => exact ih
theorem cT {scope : Scope} {env : Env} (x : Str) : (relabel scope env).names.lookup x = (scope.names.lookup x).map fun k => if (k == .free && env.scope.kind == .function && env.kindOf x == some .cell) = true then .cell else k := by
  have e : (relabel scope env).names = scope.names.map fun p => (p.1, (fun n k => if (k == NameKind.free && env.scope.kind == .function && env.kindOf n == some .cell) = true then NameKind.cell else k) p.1 p.2) := by
    unfold relabel
    dsimp only
    congr 1
    funext p
    obtain ⟨n, k⟩ := p
    dsimp only
    split <;> rfl
  rw [e]
  exact lookup_map2 (c := fun n k => if (k == NameKind.free && env.scope.kind == .function && env.kindOf n == some .cell) = true then NameKind.cell else k)
noncomputable def aE (N : List Str) (sc scope : Scope) (N' : List Str) (tn : Nat) (idx : List Nat) : Prop :=
  scope.kind = .function ∧ (∀ y ∈ scope.names, y.2 ≠ .cell ∧ (y.2 = .local → scope.names.lookup y.1 = some .local) ∧ (y.2 = .free → sc.names.lookup y.1 = some .cell ∨ sc.names.lookup y.1 = some .free)) ∧
    N'.length = tn + idx.length ∧ ∀ p ∈ idx.zip (N'.drop tn), N[p.1]? = some p.2 ∧ scope.names.lookup p.2 = some .free
instance (N : List Str) (sc scope : Scope) (N' : List Str) (tn : Nat) (idx : List Nat) : Decidable (aE N sc scope N' tn idx) := by unfold aE; infer_instance
noncomputable def bo (tn : Nat) (idx : List Nat) (σ : St) : St := List.replicate tn none ++ idx.map fun i => (σ[i]?).join
theorem aE.at {N : List Str} {sc scope : Scope} {N' : List Str} {tn : Nat} {idx : List Nat} (B : aE N sc scope N' tn idx) {σ : St} {i : Nat} {x : Str} {v : V} (h1 : N'[i]? = some x) (h2 : (bo tn idx σ)[i]? = some (some v)) :
    scope.names.lookup x = some .free ∧ ∃ j : Nat, N[j]? = some x ∧ σ[j]? = some (some v) := by
  obtain ⟨_, _, b3, b4⟩ := B
  unfold bo at h2
  by_cases hi : i < tn
  · rw [List.getElem?_append_left (by simpa using hi), List.getElem?_replicate, if_pos hi] at h2
    cases h2
  · rw [List.getElem?_append_right (by simpa using hi), List.length_replicate, List.getElem?_map] at h2
    cases e : idx[i - tn]? with
    | none => rw [e] at h2; cases h2
    | some k =>
      rw [e] at h2
      have h3 : (σ[k]?).join = some v := Option.some.inj h2
      have e2 : (N'.drop tn)[i - tn]? = some x := by
        rw [List.getElem?_drop]
        have : tn + (i - tn) = i := by omega
        rw [this]; exact h1
      have m : (k, x) ∈ idx.zip (N'.drop tn) := by
        refine List.mem_of_getElem? (i := i - tn) ?_
        rw [List.getElem?_zip_eq_some]
        exact ⟨e, e2⟩
      obtain ⟨a, b⟩ := b4 _ m
      refine ⟨b, k, a, ?_⟩
      cases q : σ[k]? with
      | none => rw [q] at h3; cases h3
      | some w => rw [q] at h3; exact congrArg some h3
theorem aE.len {N : List Str} {sc scope : Scope} {N' : List Str} {tn : Nat} {idx : List Nat} (B : aE N sc scope N' tn idx) (σ : St) : (bo tn idx σ).length = N'.length := by
  rw [B.2.2.1]
  unfold bo
  simp
section
variable {X : Cx}
noncomputable def iU (X : Cx) (ifs : List Expr) (tt : TT) : Prop :=
  ∀ (pins : List (Addr × Obj)) (s : Shared) (σ : St) (H : Hp) (Q : Bool → Hp → Prop), Inv X pins σ H s → tt σ H Q →
    wpAny (model X.prog X.w) X.A (forIn ifs true fun c r => if r = true then do let ok ← isTrue c X.env (eval c X.env); pure (ForInStep.yield ok) else pure (ForInStep.yield r)) (TP X pins σ Q) X.xe s
noncomputable def IK : TT := fun _ H Q => Q true H
theorem Dq : iU X [] IK := fun _ _ _ H _ I h => wpAny_tests_nil ⟨H, I, h⟩
theorem Dr {c : Expr} {tc : TT} (h : PT X c tc) : iU X [c] tc := fun pins s σ H Q I q => wpAny_tests_one (h pins s σ H Q I q)
noncomputable abbrev gB (X : Cx) (N' : List Str) (scope : Scope) (cl : List (Str × Addr)) (C : Addr) (s : Shared) (H : Hp) (fp : List Addr) : Cx := cxBlock X N' (compEnvC scope cl C X.env) X.A X.stack s H fp
noncomputable abbrev Blk (X : Cx) (N' : List Str) (scope : Scope) (P : Cx → Prop) : Prop := ∀ (cl : List (Str × Addr)) (C : Addr) (s : Shared) (H : Hp) (fp : List Addr), P (gB X N' scope cl C s H fp)
noncomputable def vV (J : It) (g : TG) (tt : TT) (te : TE) (D : Addr) (Q : VK) (W : Nat → Nat → St → Hp → Prop) : Prop := ∀ i m τ H, W i m τ H →
  (J.stop i H ∧ Q (.ref D) H) ∨ (J.go i H ∧ ∀ x H', J.yld i H x H' → g x τ H' fun aB H2 => tt aB H2 fun b H3 => if b = true then te aB H3 fun y H4 => ∃ ys m', H4 D = some (.lst ys) ∧ ys.length < sizeLine ∧ m' < m ∧ W (i + 1) m' aB (upd H4 D (.lst (ys ++ [y]))) else ∃ m', m' < m ∧ W (i + 1) m' aB H3)
noncomputable def oh (tn : Nat) (idx : List Nat) (wi : TI) (g : TG) (tt : TT) (te : TE) : TE := fun σ H Q => wi σ H fun J H1 => ∀ D, H1 D = none → ∃ W : Nat → Nat → St → Hp → Prop, (∃ m, W 0 m (bo tn idx σ) (upd H1 D (.lst []))) ∧ vV J g tt te D Q W
theorem ql {pins : List (Addr × Obj)} {σ : St} {H2 : Hp} {s2 : Shared} {tg elt iter : Expr} {ifs : List Expr} {scope : Scope} {pos : Pos} {N' : List Str} {tn : Nat} {idx : List Nat} {g : TG} {tt : TT} {te : TE} {it : Addr} {fp : List Addr} {cA : Nat → Heap → Prop} {J : It}
    {cl : List (Str × Addr)} {E : Value → Shared → Prop} {RR : Value → Addr → Result → Shared → Prop} {Q : VK}
    (hc : X.calm = true) (B : aE X.N X.env.scope scope N' tn idx)
    (hg : Blk X N' scope fun Y => PG Y tg g) (ht : Blk X N' scope fun Y => iU Y ifs tt) (he : Blk X N' scope fun Y => PE Y elt te)
    (I : Inv X pins σ H2 s2) (T : Turn X.prog X.w X.K tg J fp it cA) (st : cA 0 s2.heap) (f2 : ∀ b ∈ fp, cS X pins H2 b)
    (cM : ∀ n c, cl.lookup n = some c → X.env.cells.lookup n = some c) (ee : ∀ n, (n, NameKind.free) ∈ scope.names → ∃ c, cl.lookup n = some c)
    (hq : ∀ D, H2 D = none → ∃ W : Nat → Nat → St → Hp → Prop, (∃ m, W 0 m (bo tn idx σ) (upd H2 D (.lst []))) ∧ vV J g tt te D Q W)
    (yp : ∀ D C m s' H', Inv X pins σ H' s' → cS X pins H' C → s'.heap.Ns C m → Q (.ref D) H' → RR (.ref D) C (.ok .next) s') :
    wpAny (model X.prog X.w) X.A (newList []) (fun acc dC => wpAny (model X.prog X.w) X.A (newFunctionEnv scope X.env.globals cl [] X.env.qual none .none (some X.env)) (fun kY sf =>
      codeAny (model X.prog X.w) X.A (.compStart (.ListComp elt [⟨tg, iter, ifs, 0⟩] scope pos) 0 (.ref it) acc { kY with scope := relabel scope X.env }) (RR acc kY.locals) sf) E dC) E s2 := by
  obtain ⟨b1, b2, b3, b4⟩ := id B
  refine wpAny_newObj_type (wpAny_newFunctionEnv (fun y hy => (b2 y hy).1) (by intro y hy; simp at hy) (fun c5 gb gd => ?_) b1)
  dsimp only at gb gd ⊢
  generalize hG : s2.heap.push { cls := .type "list", dict := none, data := .seq ([] : List Value).toArray } = G at gb gd ⊢
  have hC : G.objs.size = s2.heap.objs.size + 1 := by rw [← hG, Heap.size_push]
  have sg : s2.heap.objs.size ≠ G.objs.size := by rw [hC]; exact Nat.ne_of_lt (Nat.lt_succ_self _)
  have gG : s2.heap.objs.size ≤ G.objs.size := by rw [hC]; exact Nat.le_succ _
  have below : ∀ b, b < s2.heap.objs.size → b ≠ G.objs.size := fun b hb => by rw [hC]; exact Nat.ne_of_lt (Nat.lt_succ_of_lt hb)
  have old : ∀ b o, s2.heap.get? b = some o → c5.get? b = some o := fun b o e => gd.extBut b o (below b (Heap.lt_size e)) (Heap.get?_push_of_some _ (hG ▸ Heap.get?_push_of_some _ e))
  have yq : c5.get? s2.heap.objs.size = some { cls := .type "list", data := .seq ([] : List Value).toArray } := gd.extBut _ _ sg (Heap.get?_push_of_some _ (hG ▸ Heap.get?_push_size _ rfl))
  have qm : H2 s2.heap.objs.size = none := I.hok.fresh (Nat.le_refl _)
  have oe : upd H2 s2.heap.objs.size (.lst []) G.objs.size = none := by rw [ae (Ne.symm sg)]; exact I.hok.fresh gG
  have sh : cc X.prog X.w (upd H2 s2.heap.objs.size (.lst [])) c5 := I.hok.laid old (Nat.le_refl _) ⟨Nat.zero_le _, [], 0, .nil, yq⟩
  have ik : ∀ b ∈ fp, b < s2.heap.objs.size := fun b hb => let ⟨o, e, _⟩ := T.obj _ _ st b hb; Heap.lt_size e
  obtain ⟨W, ⟨m0, w0⟩, turn⟩ := hq s2.heap.objs.size qm
  have I1 : Inv (gB X N' scope cl G.objs.size s2 H2 fp) [] (bo tn idx σ) (upd H2 s2.heap.objs.size (.lst [])) { s2 with heap := c5, toks := s2.toks + ([] : List (Str × Value)).length } := by
    refine kX (g' := s2.gens) (m0 := fun x => ([] : List (Str × Value)).reverse.lookup x) I b1 rfl rfl cM (fun x hx => ?_) (fun z => I.ok.hd z) I.ok.frames (.inl rfl) gG f2 ik (Un.laid old (Nat.le_refl _) qm) sh oe old gb (fun i x v e1 e2 e3 => ?_) (B.len σ) I.bare.self
    · have gC : (relabel scope X.env).names.lookup x = some .cell ∨ (relabel scope X.env).names.lookup x = some .free := hx
      rw [cT] at gC
      cases q : scope.names.lookup x with
      | none => rw [q] at gC; rcases gC with z | z <;> cases z
      | some k0 =>
        have hm := PySem.mem_of_lookup q
        rw [q] at gC
        by_cases hk : k0 = .free
        · subst hk; exact ee x hm
        · have nk : (k0 == NameKind.free) = false := by simpa using hk
          have nc := (b2 _ hm).1
          simp only [Option.map_some, nk, Bool.false_and, Bool.false_eq_true, if_false] at gC
          rcases gC with z | z
          · exact absurd (Option.some.inj z) nc
          · exact absurd (Option.some.inj z) hk
    · obtain ⟨fr, j, e4, e5⟩ := B.at e1 e2
      have kx := (b2 _ (PySem.mem_of_lookup fr)).2.2 rfl
      refine ⟨?_, .inr kx, kx, j, e4, e5⟩
      show (relabel scope X.env).names.lookup x = some .cell ∨ (relabel scope X.env).names.lookup x = some .free
      rw [cT, fr]
      simp only [Option.map_some]
      split
      · exact .inl rfl
      · exact .inr rfl
  have stat : ∀ {H' : Hp}, (∀ b ∈ fp, H' b = none) → ∀ b ∈ fp, cS (gB X N' scope cl G.objs.size s2 H2 fp) [] H' b := fun hn b hb => by
    refine ⟨hn b hb, below b (ik b hb), fun z => ?_, .inl hb, fun x c e => (f2 b hb).2.2.2.2.1 x c (cM x c e), fun p hp => absurd (show p ∈ ([] : List (Addr × Obj)) from hp) (by simp)⟩
    rcases List.mem_cons.mp (I.eB b z) with q | q
    · exact (f2 b hb).2.1 q
    · exact (f2 b hb).2.2.1 q
  have loop : ∀ dC : Shared, dC = { s2 with heap := c5, toks := s2.toks + ([] : List (Str × Value)).length } →
      codeAny (model X.prog X.w) X.A (.compLoop (.ListComp elt [⟨tg, iter, ifs, 0⟩] scope pos) 0 (.ref it) (.ref s2.heap.objs.size) (compEnvC scope cl G.objs.size X.env))
        (RR (.ref s2.heap.objs.size) G.objs.size) dC := by
    rintro dC rfl
    refine codeAny_loop rfl (fun n s' => ∃ i τ H', Inv (gB X N' scope cl G.objs.size s2 H2 fp) [] τ H' s' ∧ cA i s'.heap ∧ (∀ b ∈ fp, H' b = none) ∧ W i n τ H') (fun n s hI => ?_) m0
      ⟨0, _, _, I1, T.keep _ _ _ st fun b _ o e => old b o e, fun b hb => by rw [ae (Nat.ne_of_lt (ik b hb))]; exact (f2 b hb).1, w0⟩
    show wpAny _ X.A ((compTurn (.ListComp elt [⟨tg, iter, ifs, 0⟩] scope pos) 0 (.ref it) (.ref s2.heap.objs.size) (compEnvC scope cl G.objs.size X.env)).onRaise (fun x => do noteFrame x (compEnvC scope cl G.objs.size X.env); theTreesLotGoes x)) _ _ s
    refine wpAny_noted ?_
    rw [compTurn_list]
    obtain ⟨i, τ, H3, I3, js, kQ, w3⟩ := hI
    rcases turn i n τ H3 w3 with ⟨stop, qn⟩ | ⟨go, step⟩
    · refine wpAny_bind (wpAny_standAt (wpAny_bind (wpAny_mono (T.done (gB X N' scope cl G.objs.size s2 H2 fp) rfl rfl rfl hc i [] s τ H3 (fun _ _ => False) I3 (stat kQ) js stop) (fun r s4 ⟨hr, I4⟩ => ?_) fun _ _ z => z.elim)))
      subst hr
      refine wpAny_pure ?_
      have J2 : Inv X pins σ H3 s4 := I.nQ I4.os I4.base I4.hok I4.bare fun b hb => ⟨(f2 b hb).2.2.2.1, (f2 b hb).2.1, (f2 b hb).2.2.2.2.1, (f2 b hb).2.2.2.2.2⟩
      obtain ⟨mm, hm, _⟩ := I4.loc
      exact yp _ _ mm s4 H3 J2 (I.jH gG I4.free) hm qn
    · refine wpAny_bind (wpAny_standAt (wpAny_bind (wpAny_mono (T.item (gB X N' scope cl G.objs.size s2 H2 fp) rfl rfl rfl hc i [] s τ H3 (fun _ _ => False) I3 (stat kQ) js go) (fun r s4 ⟨u, hr, h4⟩ => ?_) fun _ _ z => z.elim)))
      subst hr
      refine wpAny_bind (wpAny_mono h4 (fun _ s5 ⟨x, H5, I5, r5, y5, f7, nX⟩ => ?_) fun _ _ z => z.elim)
      have nY := I5.pinned (stat nX) (T.obj _ _ f7)
      have again : ∀ {gX : St} {H7 : Hp} {s7 : Shared}, Inv (gB X N' scope cl G.objs.size s2 H2 fp) ([] ++ gV fp s5.heap) gX H7 s7 → (∃ m', m' < n ∧ W (i + 1) m' gX H7) →
          ∃ m, m < n ∧ ∃ i τ H', Inv (gB X N' scope cl G.objs.size s2 H2 fp) [] τ H' s7 ∧ cA i s7.heap ∧ (∀ b ∈ fp, H' b = none) ∧ W i m τ H' := fun {gX H7 s7} I7 n7 => by
        obtain ⟨m', hm, w7⟩ := n7
        refine ⟨m', hm, i + 1, gX, H7, I7.dP, T.keep _ _ _ f7 fun b hb o e => (I7.pin (b, o) (List.mem_append_right _ (List.mem_append_right _ (cu hb e)))).1, fun b hb => ?_, w7⟩
        obtain ⟨o, e, d⟩ := T.obj _ _ f7 b hb
        exact (I7.pin (b, o) (List.mem_append_right _ (List.mem_append_right _ (cu hb e)))).2.1
      refine wpAny_bind (wpAny_mono (hg cl G.objs.size s2 H2 fp _ s5 τ H5 x u _ nY r5 (step x H5 y5)) (fun _ s6 ⟨ip, H6, I6, q6⟩ => ?_) fun _ _ z => z.elim)
      refine wpAny_bind (wpAny_mono (ht cl G.objs.size s2 H2 fp _ s6 ip H6 _ I6 q6) (fun ok s7 ⟨H7, I7, q7⟩ => ?_) fun _ _ z => z.elim)
      cases ok with
      | false => exact wpAny_pure ⟨rfl, again I7 q7⟩
      | true =>
        refine wpAny_bind (wpAny_bind (wpAny_mono (he cl G.objs.size s2 H2 fp _ s7 ip H7 _ I7 q7) (fun yv s8 ⟨y, H8, I8, r8, q8⟩ => ?_) fun _ _ z => z.elim))
        obtain ⟨ys, m', hD, hsz, kZ, w8⟩ := q8
        refine wpAny_bind (wpAny_mono (kW (X := gB X N' scope cl G.objs.size s2 H2 fp) _ s8 ip H8 (.ref s2.heap.objs.size) [y] (.ref s2.heap.objs.size) [yv] (fun v H9 => v = .aq ∧ H9 = upd H8 s2.heap.objs.size (.lst (ys ++ [y]))) I8 rfl (.cons r8 .nil) ⟨_, ys, y, rfl, rfl, hD, hsz, rfl, rfl⟩) (fun rv s9 ⟨v9, H9, I9, _, _, e9⟩ => ?_) fun _ _ z => z.elim)
        subst e9
        exact wpAny_pure (wpAny_pure ⟨rfl, again I9 ⟨m', kZ, w8⟩⟩)
  exact codeAny_compStart_list (loop _ rfl) (T.self _ 0 _ _ _ (T.keep _ _ _ st fun b _ o e => old b o e) (loop _ rfl))
variable {tg elt iter : Expr} {ifs : List Expr} {scope : Scope} {pos : Pos} {N' : List Str} {tn : Nat} {idx : List Nat} {wi : TI} {g : TG} {tt : TT} {te : TE}
theorem cS.turn {pins : List (Addr × Obj)} {σ : St} {H : Hp} {s : Shared} {C : Addr} {h' : Heap} (f : cS X pins H C) (I : Inv X pins σ H s) (hs : Heap.SameBut C s.heap h') : Inv X pins σ H { s with heap := h' } :=
  I.turned (t' := s.toks) (fun b o hb e => (hs.2 b hb).trans e) f.1 f.2.1 f.2.2.2.1 f.2.2.2.2.1 f.2.2.2.2.2
theorem mK (hc : X.calm = true) (B : aE X.N X.env.scope scope N' tn idx) (hi : PI X tg iter wi)
    (hg : Blk X N' scope fun Y => PG Y tg g) (ht : Blk X N' scope fun Y => iU Y ifs tt) (he : Blk X N' scope fun Y => PE Y elt te)
    (hs : ∀ x, foldedSetIterable iter X.env x = pure x := by intro _; rfl) : PE X (.ListComp elt [⟨tg, iter, ifs, 0⟩] scope pos) (oh tn idx wi g tt te) := by
  refine ⟨?_⟩
  intro pins s σ H Q I h
  obtain ⟨cl, fv, cM, ee⟩ := eV (scope := scope) (env := X.env) fun n hn => I.ok.has n ((B.2.1 _ hn).2.2 rfl)
  rw [eval_ListComp]
  refine wpAny_comprehension_free (use := none) rfl hs fv B.1 (fun y hy => (B.2.1 y hy).2.1) (wpAny_mono (hi pins s σ H _ I h) (fun xv s1 h1 => wpAny_mono h1 (fun rU s2 h2 => ?_) fun _ _ z => z) fun _ _ z => z)
  obtain ⟨it, fp, cA, J, H2, e, I2, T, kP, f2, q2⟩ := h2
  subst e
  refine ql (RR := fun acc C => compPost (model X.prog X.w) X.A X.xe none (EP X pins σ Q) acc C) hc B hg ht he I2 T kP f2 cM ee q2 fun D C m s' H' J2 fC hm q => ?_
  exact ⟨m, hm, fun h' mL => ⟨.ref D, H', fC.turn J2 mL, rfl, q⟩⟩
theorem vW {i : Nat} {y : Str} {py iV : Pos} (hN : X.N.Nodup) (dU : X.N[i]? = some y) (hy : X.env.scope.names.lookup y = some .local) (hc : X.calm = true) (B : aE X.N X.env.scope scope N' tn idx) (hi : PI X tg iter wi)
    (hg : Blk X N' scope fun Y => PG Y tg g) (ht : Blk X N' scope fun Y => iU Y ifs tt) (he : Blk X N' scope fun Y => PE Y elt te)
    (si : swapsWith (.ListComp elt [⟨tg, iter, ifs, 0⟩] scope pos) (some (.Name y py)) iV.line X.env = pure true := by rfl)
    (hs : ∀ x, foldedSetIterable iter X.env x = pure x := by intro _; rfl) : PS X (.Assign [.Name y py] (.ListComp elt [⟨tg, iter, ifs, 0⟩] scope pos) iV) (pf (oh tn idx wi g tt te) (nU i)) := by
  refine ⟨?_⟩
  intro pins s σ H D I h
  obtain ⟨cl, fv, cM, ee⟩ := eV (scope := scope) (env := X.env) fun n hn => I.ok.has n ((B.2.1 _ hn).2.2 rfl)
  rw [exec_Assign_Name_used _ _ _ _ si]
  refine wpAny_bind (wpAny_standAt (wpAny_bind ?_))
  show wpAny _ X.A (do let _ ← comprehension (.ListComp elt [⟨tg, iter, ifs, 0⟩] scope pos) scope X.env _ (newList []) false (eval iter X.env) (some (assign (.Name y py) X.env))) _ _ s
  refine wpAny_bind (wpAny_mono (wpAny_comprehension_free (use := some (assign (.Name y py) X.env)) (Q := fun _ s' => SP X pins D .next s') rfl hs fv B.1 (fun y hy => (B.2.1 y hy).2.1)
    (wpAny_mono (hi pins s σ H _ I h) (fun xv s1 h1 => wpAny_mono h1 (fun rU s2 h2 => ?_) fun _ _ z => z) fun _ _ z => z)) (fun _ s' hq => wpAny_pure (wpAny_pure hq)) fun _ _ z => z)
  obtain ⟨it, fp, cA, J, H2, e, I2, T, kP, f2, q2⟩ := h2
  subst e
  refine ql (RR := fun acc C => compPost (model X.prog X.w) X.A X.xe (some (assign (.Name y py) X.env)) (fun _ s' => SP X pins D .next s') acc C) hc B hg ht he I2 T kP f2 cM ee q2 fun E C m s' H' J2 fC hm q => ?_
  show wpAny _ X.A (assign (.Name y py) X.env (.ref E)) _ _ s'
  refine wpAny_assign_Name (store_ok2 J2 hN dU (.inl hy) (v := .ref E) rfl (fun s3 J3 ⟨a, gf, ha⟩ => ?_) (.inr hy))
  have eE : C ≠ a := by
    rcases ha with z | z
    · rw [z]; exact fC.2.1
    · exact fun w => fC.2.2.2.2.1 _ _ z w.symm
  exact ⟨m, hm.sameBut gf eE, fun h' mL => ⟨_, H', fC.turn J3 mL, q⟩⟩
end
noncomputable def Tb (P : Addr) (H : Hp) : Prop := ∃ ps, H P = some (.cz ps) ∧ TriplesOk ps.toList
section
variable {X : Cx} {pins : List (Addr × Obj)} {σ : St} {H : Hp} {s : Shared} {P : Addr} {ps more : Array Value} {h' : Heap}
theorem Inv.grown (I : Inv X pins σ H s) (hP : H P = some (.cz ps)) (k : ∀ b o, b ≠ P → s.heap.get? b = some o → h'.get? b = some o) (n : h'.get? P = some { cls := .none, data := .fields (ps ++ more) }) (t' : Nat) :
    Inv X pins σ (upd H P (.cz (ps ++ more))) { s with heap := h', toks := t' } := by
  have ne : ∀ b u, H b = some u → u ≠ .cz ps → b ≠ P := fun b u e d => vF e hP d
  have nn : ∀ b, H b = none → b ≠ P := fun b e z => by rw [z, hP] at e; cases e
  refine I.un ⟨fun b o e q _ _ => k b o (nn b q) e, fun b o e q _ _ => ⟨o.slots, k b o (nn b q) e⟩, fun b o e q _ => by rw [ae (nn b q)]; exact q, fun b o e _ => ?_, fun b xs e => by rw [ae (ne b _ e (by intro z; cases z))]; exact e,
    fun b o u e => by rw [ae (ne b _ e (by intro z; cases z))]; exact e, fun b qs e => ?_⟩ fun b u e => ?_
  · by_cases hb : b = P
    · subst hb; exact ⟨_, n⟩
    · exact ⟨o, k b o hb e⟩
  · by_cases hb : b = P
    · subst hb
      rw [hP] at e; cases e
      exact ⟨more, ay⟩
    · exact ⟨#[], by rw [ae hb, e]; simp⟩
  · by_cases hb : b = P
    · subst hb
      rw [ay] at e; cases e
      exact n
    · rw [ae hb] at e
      refine (I.hok b u e).bO (fun c v hc q => k c v ?_ q) (fun c q => ?_) fun c xs q => ?_
      · rcases hc with z | z
        · rw [z]; exact hb
        · exact ne c _ z (by intro w; cases w)
      · rw [ae (ne c _ q (by intro w; cases w))]; exact q
      · rw [ae (ne c _ q (by intro w; cases w))]; exact q
theorem px {c : Addr} {pos : Pos} {qn : Str} {scope : Scope} {Q : Value → Shared → Prop} {A : Around} {E : Value → Shared → Prop} (I : Inv X pins σ H s) (hc : X.env.code = .ref c) (hd : PySem.W.CodeHd X.base c P) (hP : H P = some (.cz ps)) (ht : TriplesOk ps.toList)
    (h : ∀ code gh s', TriplesOk gh.toList → Inv X pins σ (upd H P (.cz gh)) s' → (∀ b o, b ≠ P → s.heap.get? b = some o → s'.heap.get? b = some o) → s'.gens = s.gens → Q code s') : wpAny (model X.prog X.w) A (genexprCode X.env pos qn scope) Q E s := by
  have sj : s.heap.get? P = some (PySem.W.tabObj ps) := I.hok P _ hP
  have jr := hd.keeps I.bk
  have ic := jr.code sj ht
  cases q : codeAmong pos ps.toList with
  | some c' =>
    refine wpAny_genexprCode_hit hc ic q (h c' ps s ht ?_ (fun _ _ _ e => e) rfl)
    have e : upd H P (.cz ps) = H := by
      funext b
      by_cases hb : b = P
      · subst hb; rw [ay, hP]
      · rw [ae hb]
    rw [e]; exact I
  | none =>
    refine wpAny_genexprCodeX hc ic (jr.tab sj) q fun c' h' tk ex h1 h2 OX _ ta _ => ?_
    obtain ⟨_, Cd⟩ := ta
    have tr : TriplesOk (ps ++ #[rawInt pos.line, rawInt pos.col, Value.ref c']).toList := by
      rw [Array.toList_append]
      exact TriplesOk_snoc _ _ _ _ ht
    exact h _ _ _ tr (I.grown hP (fun b o hb e => ex b o hb e) Cd tk) (fun b o hb e => ex b o hb e) rfl
end
noncomputable def m7 (s bX : Shared) : Prop := bX.heap = s.heap ∧ bX.os = s.os ∧ Gn s.gens.size bX.gens
theorem Inv.m8 {X : Cx} {pins : List (Addr × Obj)} {σ : St} {H : Hp} {s bX : Shared} (I : Inv X pins σ H s) (o : m7 s bX) : Inv X pins σ H bX := by
  obtain ⟨h, g, d, t, os⟩ := s
  obtain ⟨h', g', d', t', Ca⟩ := bX
  obtain ⟨e1, e2, e3⟩ := o
  cases e1
  cases e2
  exact ⟨I.ok, I.os, I.bare.trans e3, I.base, I.loc, I.cell, I.free, I.freeC, I.pin, I.hok, I.len⟩
section
variable {Y : Cx} {A2 : Around} {tg elt iter : Expr} {ifs : List Expr} {scope : Scope} {pos : Pos} {it : Addr} {fp : List Addr} {cA : Nat → Heap → Prop} {J : It} {g : TG} {tt : TT} {te : TE} {pp : List (Addr × Obj)} {R : GenEnd} {Yp : Protocol}
noncomputable def FK (J : It) (g : TG) (tt : TT) (te : TE) (stopAt : Bool) (Z : Bool → Hp → Prop) (W : Nat → Nat → St → Hp → Prop) : Prop := ∀ i m τ H, W i m τ H →
  (J.stop i H ∧ Z (!stopAt) H) ∨ (J.go i H ∧ ∀ x H', J.yld i H x H' → g x τ H' fun aB H2 => tt aB H2 fun b H3 => if b = true then te aB H3 fun y H4 => ∃ c, y = .bl c ∧ (if c = stopAt then Z stopAt H4 else ∃ m', m' < m ∧ W (i + 1) m' aB H4) else ∃ m', m' < m ∧ W (i + 1) m' aB H3)
theorem AK (hA : Y.A = A2.over (.compLoop (.GeneratorExp elt [⟨tg, iter, ifs, 0⟩] scope pos) 0 (.ref it) .none Y.env) []) (FL : Y.xe = fun _ _ => False) (hc : Y.calm = true) (qo : Y.env.scope.isCoroutine = false)
    (T : Turn Y.prog Y.w Y.K tg J fp it cA) (hg : PG Y tg g) (ht : iU Y ifs tt) (he : PE Y elt te) (stat : ∀ {H' : Hp}, (∀ b ∈ fp, H' b = none) → ∀ b ∈ fp, cS Y pp H' b)
    {W : Nat → Nat → St → Hp → Prop} {Z : Bool → Hp → Prop} {stopAt : Bool} (turn : FK J g tt te stopAt Z W)
    (hR : ∀ n s₀ az τ H, Inv Y pp τ H az → Z (!stopAt) H → R n s₀ (.ok .next) az)
    (hY : ∀ n s₀ s sk c τ H, Inv Y pp τ H s → (c = stopAt → Z stopAt H) → (c ≠ stopAt → ∀ bX, m7 s bX → sk (.send .none) bX) → Yp n s₀ (.bool c) s sk) :
    ∀ (m n i : Nat) (τ : St) (H : Hp) (s s₀ : Shared), m < n → W i m τ H → Inv Y pp τ H s → cA i s.heap → (∀ b ∈ fp, H b = none) →
      Seg (model Y.prog Y.w) A2 R Yp n s₀ (.compLoop (.GeneratorExp elt [⟨tg, iter, ifs, 0⟩] scope pos) 0 (.ref it) .none Y.env)
        ((model Y.prog Y.w).den (.compLoop (.GeneratorExp elt [⟨tg, iter, ifs, 0⟩] scope pos) 0 (.ref it) .none Y.env)) [] s := by
  intro m
  induction m using Nat.strongRecOn with
  | ind m ih =>
    intro n i τ H s s₀ OY w I st fr
    show Seg _ A2 _ _ _ s₀ _ ((compTurn (.GeneratorExp elt [⟨tg, iter, ifs, 0⟩] scope pos) 0 (.ref it) .none Y.env).onRaise (leaving Y.env)) [] s
    rw [compTurn_gen, Sem.onRaise_eq_wrap]
    rcases turn i m τ H w with ⟨stop, qn⟩ | ⟨go, step⟩
    · refine seg_bind_wrap (wpAny_standAt ?_)
      have d := T.done Y rfl rfl rfl hc i pp s τ H (fun _ _ => False) I (stat fr) st stop
      rw [hA] at d
      refine seg_bind_wrap (wpAny_mono d (fun r s1 ⟨hr, I1⟩ => ?_) fun _ _ z => z.elim)
      subst hr
      exact seg_end (.ok .next) (hR _ _ _ _ _ I1 qn)
    · refine seg_bind_wrap (wpAny_standAt ?_)
      have d := T.item Y rfl rfl rfl hc i pp s τ H (fun _ _ => False) I (stat fr) st go
      rw [hA] at d
      refine seg_bind_wrap (wpAny_mono d (fun r s4 ⟨u, hr, h4⟩ => ?_) fun _ _ z => z.elim)
      subst hr
      refine seg_bind_wrap (wpAny_mono h4 (fun _ s5 ⟨x, H5, I5, r5, y5, f7, nX⟩ => ?_) fun _ _ z => z.elim)
      have nY := I5.pinned (stat nX) (T.obj _ _ f7)
      have back : ∀ {gX : St} {H7 : Hp} {s7 : Shared}, Inv Y (pp ++ gV fp s5.heap) gX H7 s7 → cA (i + 1) s7.heap ∧ ∀ b ∈ fp, H7 b = none := fun {gX H7 s7} I7 => by
        refine ⟨T.keep _ _ _ f7 fun b hb o e => (I7.pin (b, o) (List.mem_append_right _ (List.mem_append_right _ (cu hb e)))).1, fun b hb => ?_⟩
        obtain ⟨o, e, d⟩ := T.obj _ _ f7 b hb
        exact (I7.pin (b, o) (List.mem_append_right _ (List.mem_append_right _ (cu hb e)))).2.1
      have d2 := hg _ s5 τ H5 x u _ nY r5 (step x H5 y5)
      rw [hA, FL] at d2
      refine seg_bind_wrap (wpAny_mono d2 (fun _ s6 ⟨ip, H6, I6, q6⟩ => ?_) fun _ _ z => z.elim)
      have d3 := ht _ s6 ip H6 _ I6 q6
      rw [hA, FL] at d3
      refine seg_bind_wrap (wpAny_mono d3 (fun ok s7 ⟨H7, I7, q7⟩ => ?_) fun _ _ z => z.elim)
      have hy : ∀ v, yieldOut Y.env v = yieldValue v := fun v => by simp only [yieldOut, qo, Bool.false_eq_true, if_false]
      cases ok with
      | false =>
        simp only [Bool.false_eq_true, if_false] at q7 ⊢
        obtain ⟨m', kZ, w7⟩ := q7
        exact seg_again rfl (ih m' kZ n (i + 1) ip H7 s7 s₀ (by omega) w7 I7.dP (back I7).1 (back I7).2)
      | true =>
        simp only [if_true] at q7 ⊢
        simp only [hy]
        rw [Sem.bind_eq_wrap', Sem.bind_eq_wrap', Sem.wrap_wrap, Sem.wrap_wrap]
        have d4 := he _ s7 ip H7 _ I7 q7
        rw [hA, FL] at d4
        refine seg_wrap (wpAny_mono d4 (fun yv s8 ⟨y, H8, I8, r8, q8⟩ => ?_) fun _ _ z => z.elim)
        obtain ⟨c, ey, q8⟩ := q8
        subst ey
        cases (show yv = Value.bool c from r8)
        obtain ⟨n, rfl⟩ : ∃ n', n = n' + 1 := ⟨n - 1, by omega⟩
        refine seg_at (seg_yield rfl rfl rfl (hY _ _ _ _ c ip H8 I8.dP (fun e => by rw [if_pos e] at q8; exact q8) fun e bX ok => ?_))
        rw [if_neg e] at q8
        obtain ⟨m', kZ, w8⟩ := q8
        have I9 := I8.m8 ok
        exact seg_again rfl (ih m' kZ n (i + 1) ip H8 bX bX (by omega) w8 I9.dP (back I9).1 (back I9).2)
end
noncomputable abbrev dQ (elt tg iter : Expr) (ifs : List Expr) (scope : Scope) (pos : Pos) : Expr := .GeneratorExp elt [⟨tg, iter, ifs, 0⟩] scope pos
noncomputable abbrev FN (X : Cx) (N' : List Str) (scope : Scope) (cl : List (Str × Addr)) (C : Addr) (code : Value) (A' : Around) (s : Shared) (H : Hp) (fp : List Addr) : Cx :=
  cxBlock X N' (genEnv scope cl C code builtinsNs X.env) A' (genEnv scope cl C code builtinsNs X.env :: X.stack) s H fp
noncomputable abbrev m9 (X : Cx) (N' : List Str) (scope : Scope) (k : Nat) (P : Cx → Prop) : Prop := ∀ (cl : List (Str × Addr)) (C : Addr) (code : Value) (A' : Around) (s : Shared) (H : Hp) (fp : List Addr), bE k A' → P (FN X N' scope cl C code A' s H fp)
structure Ln (X : Cx) (pins : List (Addr × Obj)) (σ : St) (N' : List Str) (scope : Scope) (tn : Nat) (idx : List Nat) (k : Nat) (elt tg iter : Expr) (ifs : List Expr) (pos : Pos) (J : It) (H3 : Hp) (a : Addr) (s5 : Shared)
    (Y : Cx) (it : Addr) (fp : List Addr) (cA : Nat → Heap → Prop) (g : Nat) (pp : List (Addr × Obj)) : Prop where
  inv : Inv Y pp (bo tn idx σ) H3 s5
  isg : ∀ {τ : St} {H' : Hp} {s' : Shared}, Inv Y pp τ H' s' → s'.heap.IsGen a g
  st : s5.gens[g]? = some (.fresh (.compStart (dQ elt tg iter ifs scope pos) 0 (.ref it) .none Y.env))
  T : Turn Y.prog Y.w Y.K tg J fp it cA
  tn0 : cA 0 s5.heap
  fr : ∀ b ∈ fp, H3 b = none
  stat : ∀ {H' : Hp}, (∀ b ∈ fp, H' b = none) → ∀ b ∈ fp, cS Y pp H' b
  out : ∀ {τ : St} {H' : Hp} {s' : Shared}, Inv Y pp τ H' s' → Inv X pins σ H' s'
  A : Y.A = X.A.in4.in1.over (.compLoop (dQ elt tg iter ifs scope pos) 0 (.ref it) .none Y.env) []
  xe : Y.xe = fun _ _ => False
  calm : Y.calm = true
  co : Y.env.scope.isCoroutine = false
  gsz : ∀ {τ : St} {H' : Hp} {s' : Shared}, Inv Y pp τ H' s' → g < s'.gens.size
  blk : ∀ P : Cx → Prop, m9 X N' scope k P → P Y
  prog : Y.prog = X.prog
  w : Y.w = X.w
section
variable {X : Cx} {tg elt iter : Expr} {ifs : List Expr} {scope : Scope} {pos : Pos} {N' : List Str} {tn : Nat} {idx : List Nat} {wi : TI} {g : TG} {tt : TT} {te : TE} {c P : Addr} {k : Nat}
noncomputable def FO (P : Addr) (wi : TI) (R : It → Hp → Prop) : St → Hp → Prop := fun σ H => wi σ H fun J H1 => Tb P H1 ∧ ∀ ps, TriplesOk ps.toList → R J (upd H1 P (.cz ps))
theorem AO {pins : List (Addr × Obj)} {s : Shared} {σ : St} {H : Hp} {QQ : Value → Shared → Prop} {R : It → Hp → Prop} (hr : bE (k + 1) X.A) (hc : X.calm = true) (B : aE X.N X.env.scope scope N' tn idx)
    (h0 : scope.names.lookup (".0" : Str) = some .local) (qo : scope.isCoroutine = false) (fw : X.env.code = .ref c) (hd : PySem.W.CodeHd X.base c P) (ej : ∃ bm ob, BMod X.base mainGlobals X.mg bm ob)
    (hi : PI X tg iter wi) (hs : ∀ x, genFold iter X.env x = pure x) (I : Inv X pins σ H s) (h : FO P wi R σ H)
    (q : ∀ J H3 a s5 Y it fp cA gn pp, Ln X pins σ N' scope tn idx k elt tg iter ifs pos J H3 a s5 Y it fp cA gn pp → R J H3 → QQ (.ref a) s5) :
    wpAny (model X.prog X.w) X.A (eval (dQ elt tg iter ifs scope pos) X.env) QQ X.xe s := by
  obtain ⟨cl, fv, cM, ee⟩ := eV (scope := scope) (env := X.env) fun n hn => I.ok.has n ((B.2.1 _ hn).2.2 rfl)
  refine wpAny_GeneratorExp_make qo fv (fun y hy => (B.2.1 y hy).1) h0 B.1 hr.depth (thn (hi pins s σ H _ I h) fun xv s1 h1 => thn h1 fun rU s2 h2 => ?_) hs
  obtain ⟨it, fp, cA, J, H2, e, I2, T, kP, f2, ⟨ps, hP, k4⟩, q2⟩ := h2
  subst e
  refine ⟨I2.nolimit, px I2 fw hd hP k4 fun code gh s3 Mw I3 kp OZ => ?_⟩
  obtain ⟨bm, ob, bmod⟩ := ej
  have fS := bmod.keeps I3.bk
  refine wpAny_builtinsFor (by rw [I3.ok.glob]; exact fS.ns) fS.name fS.ne fS.obj fS.cls fS.dict fS.data ?_
  intro h' xM mL
  have JV : ∀ b ∈ fp, b ≠ P := fun b hb z => by have := (f2 b hb).1; rw [z, hP] at this; cases this
  have js : cA 0 s3.heap := T.keep _ _ _ kP fun b hb o e => kp b o (JV b hb) e
  have ik : ∀ b ∈ fp, b < s3.heap.objs.size := fun b hb => let ⟨o, e, _⟩ := T.obj _ _ js b hb; Heap.lt_size e
  have f3 : ∀ b ∈ fp, cS X pins (upd H2 P (.cz gh)) b := fun b hb => ⟨by rw [ae (JV b hb)]; exact (f2 b hb).1, (f2 b hb).2⟩
  have hsz : h'.objs.size = s3.heap.objs.size + 1 := by rw [mL.1, Heap.size_push]
  have IL : ∀ b o, s3.heap.get? b = some o → h'.get? b = some o := fun b o e => mL.extBut b o (Nat.ne_of_lt (Heap.lt_size e)) (Heap.get?_push_of_some _ e)
  have JW : Gn s3.gens.size (s3.gens.push (.fresh (.compStart (dQ elt tg iter ifs scope pos) 0 (.ref it) .none (genEnv scope cl s3.heap.objs.size code builtinsNs X.env)))) := ⟨AllBare.push I3.bare.1 rfl, by rw [Array.size_push]; exact Nat.le_succ _⟩
  have JX : Inv X pins σ (upd H2 P (.cz gh)) { s3 with gens := s3.gens.push (.fresh (.compStart (dQ elt tg iter ifs scope pos) 0 (.ref it) .none (genEnv scope cl s3.heap.objs.size code builtinsNs X.env))) } := I3.m8 ⟨rfl, rfl, JW⟩
  have hA : (X.A.in4.in1.over (.compLoop (dQ elt tg iter ifs scope pos) 0 (.ref it) .none (genEnv scope cl s3.heap.objs.size code builtinsNs X.env)) []).frames = some (genEnv scope cl s3.heap.objs.size code builtinsNs X.env :: X.stack) := by
    show pushEnvs [_] (pushEnvs [] X.A.frames) = _
    rw [I.ok.frames]; rfl
  have j9 : bE k (X.A.in4.in1.over (.compLoop (dQ elt tg iter ifs scope pos) 0 (.ref it) .none (genEnv scope cl s3.heap.objs.size code builtinsNs X.env)) []) := by
    refine ⟨hr.hd, ?_, ?_⟩
    · show X.A.depth + 0 + 1 + 3 * k + 5 < recursionLimit
      have := hr.dp
      omega
    · show X.A.units + 1 + 1 + 1 + 1 + 1 + 0 + 3 + 16 * k + 200 < cLine
      have := hr.un
      omega
  generalize sm : ({ cls := .type "generator", data := .fields #[.int s3.gens.size 0, .str "<genexpr>" (s3.toks + 1), .str (X.env.qual ++ "<genexpr>") (s3.toks + 1 + 1)] } : Obj) = mM
  have rE : ∀ b o, s3.heap.get? b = some o → (h'.push mM).get? b = some o := fun b o e => Heap.get?_push_of_some _ (IL b o e)
  have Lp : mM.isFreed = false := by rw [← sm]; rfl
  have Mx : (h'.push mM).get? h'.objs.size = some mM := Heap.get?_push_size _ Lp
  have MA : h'.objs.size ≠ s3.heap.objs.size := by rw [hsz]; exact Nat.succ_ne_self _
  have MB : upd H2 P (.cz gh) h'.objs.size = none := I3.hok.fresh (by rw [hsz]; exact Nat.le_succ _)
  have I5 := kX (X := X) (N' := N') (A' := X.A.in4.in1.over (.compLoop (dQ elt tg iter ifs scope pos) 0 (.ref it) .none (genEnv scope cl s3.heap.objs.size code builtinsNs X.env)) []) (env' := genEnv scope cl s3.heap.objs.size code builtinsNs X.env) (stack' := genEnv scope cl s3.heap.objs.size code builtinsNs X.env :: X.stack) (ex := fp) (h1 := h'.push mM) (m0 := fun y => if y = ".0" then some (.ref it) else none)
    (g' := s3.gens.push (.fresh (.compStart (dQ elt tg iter ifs scope pos) 0 (.ref it) .none (genEnv scope cl s3.heap.objs.size code builtinsNs X.env)))) (tk := s3.toks + 1 + 1 + 1) (aH := bo tn idx σ) JX B.1 rfl I3.ok.blt.symm cM (fun x hx => by
      have gC : scope.names.lookup x = some .cell ∨ scope.names.lookup x = some .free := hx
      rcases gC with z | z
      · exact absurd rfl ((B.2.1 _ (PySem.mem_of_lookup z)).1)
      · exact ee x (PySem.mem_of_lookup z)) (fun z => I.ok.hd z) hA (.inr ⟨rfl, rfl⟩) (Nat.le_refl _) f3 ik (Un.kept rE) (I3.hok.kept rE) (I3.hok.fresh (Nat.le_refl _)) rE (xM.push _) (fun i x v e1 e2 e3 => by
      obtain ⟨fr, j, e4, e5⟩ := B.at e1 e2
      have kx := (B.2.1 _ (PySem.mem_of_lookup fr)).2.2 rfl
      exact ⟨.inr fr, .inr kx, kx, j, e4, e5⟩) (B.len σ) (Gn.self JW)
  have MC : h'.objs.size ∉ dN X.stack := fun z => by
    rcases List.mem_cons.mp (I3.eB _ z) with q | q
    · exact Nat.ne_of_gt (Nat.lt_of_lt_of_le I3.lt (by rw [hsz]; exact Nat.le_succ _)) q
    · exact I3.EA (by rw [hsz]; exact Nat.le_succ _) q
  have rD : ∀ v, mM.data ≠ .cell v := by rw [← sm]; intro v z; cases z
  have I6 := I5.o9 (pins' := [(h'.objs.size, mM)]) (fun p hp => by
    rcases List.mem_singleton.mp hp with rfl
    exact ⟨Mx, MB, MA, MC, rD⟩)
  refine q J _ _ _ (FN X N' scope cl s3.heap.objs.size code _ _ _ fp) it fp cA s3.gens.size [(h'.objs.size, mM)] ⟨I6, fun {τ H' s'} J' => ?_, ?_, T, T.keep _ _ _ js fun b _ o e => rE b o e, fun b hb => (f3 b hb).1, fun {H'} hn b hb => ?_, fun {τ H' s'} J' => ?_, rfl, rfl, hc, qo, fun {τ H' s'} J' => ?_, fun Pp hb => hb cl _ code _ _ _ fp j9, rfl, rfl⟩ (q2 gh Mw)
  · have := (J'.pin (h'.objs.size, mM) (List.mem_append_right _ (List.mem_singleton.mpr rfl))).1
    exact ⟨mM, _, _, this, by rw [← sm], by rw [← sm], by rw [← sm]⟩
  · exact Array.getElem?_push_size ..
  · refine ⟨hn b hb, Nat.ne_of_lt (ik b hb), fun z => ?_, .inl hb, fun x c e => (f2 b hb).2.2.2.2.1 x c (cM x c e), fun p hp z => ?_⟩
    · rcases List.mem_cons.mp (I2.eB b z) with q | q
      · exact (f2 b hb).2.1 q
      · exact (f2 b hb).2.2.1 q
    · rcases List.mem_singleton.mp hp with rfl
      have z' : h'.objs.size = b := z
      have := ik b hb
      rw [← z', hsz] at this
      exact absurd this (Nat.not_lt.mpr (Nat.le_succ _))
  · exact JX.nQ J'.os J'.base J'.hok J'.bare fun b hb => ⟨(f3 b hb).2.2.2.1, (f3 b hb).2.1, (f3 b hb).2.2.2.2.1, (f3 b hb).2.2.2.2.2⟩
  · have := J'.bare.2
    have e : (FN X N' scope cl s3.heap.objs.size code (X.A.in4.in1.over (.compLoop (dQ elt tg iter ifs scope pos) 0 (.ref it) .none (genEnv scope cl s3.heap.objs.size code builtinsNs X.env)) []) { s3 with gens := s3.gens.push (.fresh (.compStart (dQ elt tg iter ifs scope pos) 0 (.ref it) .none (genEnv scope cl s3.heap.objs.size code builtinsNs X.env))) } (upd H2 P (.cz gh)) fp).s₀.gens.size = s3.gens.size + 1 := by
      show (s3.gens.push _).size = _
      rw [Array.size_push]
    rw [e] at this
    omega
theorem AQ {prog : Program} {w : World} {A : Around} {a : Addr} {R' : Result → Shared → Prop} (In : Nat → Shared → Prop)
    (turn : ∀ n s, In n s → wpAny (model prog w) A.in1 (pyNext (.ref a)) (fun r s1 => match r with
      | none => R' (.ok (.ret (.bool true))) s1
      | some v => ∃ c, v = .bool c ∧ if c = true then ∃ m, m < n ∧ In m s1 else R' (.ok (.ret (.bool false))) s1) (fun e s' => R' (.error e) s') s) :
    ∀ (n : Nat) (s : Shared), In n s → codeAny (model prog w) A (.builtin "all.loop" ⟨[.ref a], []⟩) R' s := by
  intro n
  induction n using Nat.strongRecOn with
  | ind n ih =>
    intro s h
    refine codeAny_builtin F.entry_all_loop ?_
    rw [Around.under_plainId F.plain_all_loop _]
    show wpAny _ A.in1 (pyNext (.ref a) >>= _) _ _ s
    refine wpAny_bind (wpAny_mono (turn n s h) (fun r s1 q => ?_) fun _ _ z => z)
    cases r with
    | none => exact wpAny_bind (wpAny_rule (wpAny_pure q))
    | some v =>
      obtain ⟨c, e, q⟩ := q
      subst e
      refine wpAny_bind (wpAny_holding (wpAny_truthy_bool ?_))
      refine wpAny_bind (wpAny_letGo ?_)
      cases c with
      | true =>
        simp only [if_true] at q ⊢
        obtain ⟨m, hm, hI⟩ := q
        exact wpAny_pure ⟨plainId_quiet F.plain_all_loop _, ih m hm s1 hI⟩
      | false =>
        simp only [Bool.false_eq_true, if_false] at q ⊢
        exact wpAny_bind (wpAny_rule (wpAny_pure q))
theorem k6 {s : Shared} {g : Nat} {x : GenState} {n : Nat} (h : Gn n s.gens) (hx : x.bare = true) : Gn s.gens.size (s.setGen g x).gens := by
  refine ⟨fun y hy => ?_, ?_⟩
  · have MD : y ∈ s.gens.setIfInBounds g x := hy
    rcases Array.mem_or_eq_of_mem_setIfInBounds MD with z | z
    · exact h.1 y z
    · rw [z]; exact hx
  · show s.gens.size ≤ (s.gens.setIfInBounds g x).size
    rw [Array.size_setIfInBounds]
    exact Nat.le_refl _
theorem yr {s : Shared} {g : Nat} {x : GenState} (h : g < s.gens.size) : (s.setGen g x).gens[g]? = some x := by
  show (s.gens.setIfInBounds g x)[g]? = _
  rw [Array.getElem?_setIfInBounds_self]
  simp [h]
theorem yt {Y : Cx} {A2 : Around} {R : GenEnd} {Yp : Protocol} {n : Nat} {s₀ s : Shared} {it : Addr} {J : It} {fp : List Addr} {cA : Nat → Heap → Prop} (T : Turn Y.prog Y.w Y.K tg J fp it cA) {i : Nat} (st : cA i s.heap)
    (loop : Seg (model Y.prog Y.w) A2 R Yp n s₀ (.compLoop (dQ elt tg iter ifs scope pos) 0 (.ref it) .none Y.env) ((model Y.prog Y.w).den (.compLoop (dQ elt tg iter ifs scope pos) 0 (.ref it) .none Y.env)) [] s) :
    Seg (model Y.prog Y.w) A2 R Yp n s₀ (.compStart (dQ elt tg iter ifs scope pos) 0 (.ref it) .none Y.env) ((model Y.prog Y.w).den (.compStart (dQ elt tg iter ifs scope pos) 0 (.ref it) .none Y.env)) [] s := by
  show Seg _ A2 _ _ _ s₀ _ ((compStart (dQ elt tg iter ifs scope pos) 0 (.ref it) .none Y.env).onRaise (leaving Y.env)) [] s
  unfold compStart
  rw [Sem.onRaise_eq_wrap]
  show Seg _ A2 _ _ _ s₀ _ ((ask >>= _).wrap _ _ _ _) [] s
  refine seg_bind_wrap (wpAny_askSetting ?_)
  split
  · exact seg_again rfl loop
  · first
      | exact seg_bind_wrap (wpAny_rule (seg_bind_wrap (wpAny_standAt (seg_bind_wrap (T.self _ i s _ _ st (seg_again rfl loop))))))
      | (refine seg_bind_wrap (wpAny_rule ?_); show Seg _ A2 _ _ _ s₀ _ ((standAt iter.pos >>= _).wrap _ _ _ _) [] s; exact seg_bind_wrap (wpAny_standAt (seg_bind_wrap (T.self _ i s _ _ st (seg_again rfl loop)))))
noncomputable def FP (P : Addr) (tn : Nat) (idx : List Nat) (wi : TI) (g : TG) (tt : TT) (te : TE) : TE := fun σ H Q => FO P wi (fun J H1 => ∃ W : Nat → Nat → St → Hp → Prop, (∃ m, W 0 m (bo tn idx σ) H1) ∧ FK J g tt te false (fun b H2 => Q (.bl b) H2) W) σ H
theorem FQ {p so : Pos} (hr : bE (k + 1) X.A) (hc : X.calm = true) (B : aE X.N X.env.scope scope N' tn idx)
    (h0 : scope.names.lookup (".0" : Str) = some .local) (qo : scope.isCoroutine = false) (fw : X.env.code = .ref c) (hd : PySem.W.CodeHd X.base c P) (ej : ∃ bm ob, BMod X.base mainGlobals X.mg bm ob)
    (uT : Gl X "all") (hm : X.mg "all" = none) (hi : PI X tg iter wi) (hg : m9 X N' scope k fun Y => PG Y tg g) (ht : m9 X N' scope k fun Y => iU Y ifs tt) (he : m9 X N' scope k fun Y => PE Y elt te)
    (hs : ∀ x, genFold iter X.env x = pure x := by intro _; rfl) : PE X (.Call (.Name "all" p) [dQ elt tg iter ifs scope so] [] pos) (FP P tn idx wi g tt te) := by
  refine ⟨?_⟩
  intro pins s σ H Q I h
  refine wpAny_Call_Name_kw (fZ I uT hm PyProof.Rows.boot_all ?_)
  refine PyProof.Rows.callWith_builtin1 ?_ rfl rfl
  show wpAny _ _ (spliced ((false, eval (dQ elt tg iter ifs scope so) X.env) :: [])) _ _ s
  refine Calls.spliced_cons (AO hr hc B h0 qo fw hd ej hi hs I h ?_)
  intro J H3 a s5 Y it fp cA gn pp G ⟨W, ⟨m0, w0⟩, turn⟩
  refine Calls.spliced_nil ?_
  refine call_function_tree F.kind_all F.plain_all F.entry_all (F.args_all1 _) ?_
  unfold Builtin.«all»
  refine wpAny_bind (m := oneArg "all" _) (wpAny_pure ?_)
  refine wpAny_bind (wpAny_pyIter_gen (G.isg G.inv) ?_)
  refine wpAny_pure ⟨plainId_quiet F.plain_all_loop _, ?_⟩
  have FR := AK (A2 := X.A.in4.in1) (pp := pp) (R := fun n s₀ r az => r = .ok .next ∧ ∃ τ H, Inv Y pp τ H az ∧ Q (.bl true) H)
    (Yp := fun n s₀ v s sk => ∃ c τ H, v = .bool c ∧ Inv Y pp τ H s ∧ (c = false → Q (.bl false) H) ∧ (c ≠ false → ∀ bX, m7 s bX → sk (.send .none) bX)) G.A G.xe G.calm G.co G.T (G.blk _ hg) (G.blk _ ht) (G.blk _ he) G.stat turn
    (fun n s₀ az τ H J z => ⟨rfl, τ, H, J, z⟩) (fun n s₀ s sk c τ H J z1 z2 => ⟨c, τ, H, rfl, J, z1, z2⟩)
  have hP := G.prog
  have hW := G.w
  rw [hP, hW] at FR
  refine AQ (A := X.A) (fun n s => (∃ τ H, Inv Y pp τ H s) ∧ ∃ gs, s.gens[gn]? = some gs ∧ ∀ bX, m7 s bX → gs.Goes (model X.prog X.w) X.A.in4.in1 (fun n s₀ r az => r = .ok .next ∧ ∃ τ H, Inv Y pp τ H az ∧ Q (.bl true) H)
    (fun n s₀ v s sk => ∃ c τ H, v = .bool c ∧ Inv Y pp τ H s ∧ (c = false → Q (.bl false) H) ∧ (c ≠ false → ∀ bX, m7 s bX → sk (.send .none) bX)) n (.send .none) bX) ?_ (m0 + 1) s5 ?_
  · rintro n s6 ⟨⟨τ, H6, I6⟩, gs, ME, sm⟩
    have OJ := G.gsz I6
    refine wpAny_of_in1 (wpAny_of_in1 (wpAny_of_in1 ?_))
    show wpAny (model X.prog X.w) X.A.in4 (pyNext (.ref a)) _ _ s6
    refine wpAny_pyNext_genexpQ (A := X.A.in4) (P := fun n s₀ az => ∃ τ H, Inv Y pp τ H az ∧ Q (.bl true) H) hr.hd I6.nolimit hr.depth (G.isg I6) ME (sm _ ⟨rfl, rfl, k6 I6.bare rfl⟩) (fun v s1 JY hb hv => ?_) (fun s1 hp h' hk => ?_)
    · obtain ⟨c, JZ, H1, e, I1, z1, z2⟩ := hv
      subst e
      refine ⟨c, rfl, ?_⟩
      have yu : m7 s1 (s1.setGen gn JY) := ⟨rfl, rfl, k6 I1.bare hb⟩
      cases c with
      | false =>
        rw [if_neg Bool.false_ne_true]
        exact ⟨.bl false, H1, G.out (I1.m8 yu), rfl, z1 rfl⟩
      | true =>
        rw [if_pos rfl]
        have z3 := z2 (by decide)
        cases n with
        | zero => exact (z3 s1 ⟨rfl, rfl, I1.bare.self⟩).elim
        | succ m =>
          refine ⟨m, Nat.lt_succ_self _, ⟨JZ, H1, I1.m8 yu⟩, JY, yr (G.gsz I1), fun bX o => z3 bX ⟨o.1, o.2.1, ?_⟩⟩
          exact yu.2.2.trans o.2.2
    · obtain ⟨JZ, H1, I1, z1⟩ := hp
      have I2 := I1.kept (t' := s1.toks) hk
      have MF : m7 { s1 with heap := h' } { s1.setGen gn .finished with heap := h' } := ⟨rfl, rfl, k6 (s := s1) I1.bare rfl⟩
      exact ⟨.bl true, H1, G.out (I2.m8 MF), rfl, z1⟩
  · refine ⟨⟨_, _, G.inv⟩, _, G.st, fun bX o => ⟨rfl, ?_⟩⟩
    have I7 := G.inv.m8 o
    have J0 : cA 0 bX.heap := by rw [o.1]; exact G.tn0
    have q := yt (iter := iter) (ifs := ifs) (scope := scope) (pos := so) (elt := elt) G.T J0 (by rw [hP, hW]; exact FR m0 (m0 + 1) 0 _ _ bX bX (Nat.lt_succ_self _) w0 I7 J0 G.fr)
    rw [hP, hW] at q
    exact q
end
section
variable {X : Cx} {tg l : Expr} {tl : TE}
theorem bY {xs : List V} {us : List Value} (r : Vals xs us) {j : Nat} (h : j < us.toArray.size) : RelV (xs.getD j .aq) us.toArray[j] := by
  have hl := r.length
  have hj : j < xs.length := by simpa [hl] using h
  obtain ⟨u, e, q⟩ := r.get (i := j) (x := xs[j]) (List.getElem?_eq_getElem hj)
  have e2 : us.toArray[j] = u := by
    rw [List.getElem?_eq_some_iff] at e
    obtain ⟨h', e⟩ := e
    simpa using e
  rw [e2, List.getD_eq_getElem?_getD, List.getElem?_eq_getElem hj]
  exact q
theorem uj : cW X (.builtin "isinstance") (fun xs H Q => ∃ x T t b, xs = [x, .ty T] ∧ fD X.K H x t ∧ PySem.W.kitOne X.K t (.type T) = some b ∧ Q (.bl b) H) := by
  intro pins s σ H xs us Q I r h
  obtain ⟨x, T, t, b, rfl, ty, e, q⟩ := h
  obtain ⟨u, w', rfl, r1, r2⟩ := vals2 r
  cases (show w' = Value.type T from r2)
  exact xZ I r1 ty e fun tk => ⟨.bl b, H, I.tok tk, rfl, q⟩
theorem mO : ∀ {xs : List V} {us : List Value}, xs.length = us.length → (∀ (i : Nat) (v : V), xs[i]? = some v → ∃ u, us[i]? = some u ∧ RelV v u) → Vals xs us
  | [], [], _, _ => .nil
  | [], _ :: _, h, _ => by simp at h
  | _ :: _, [], h, _ => by simp at h
  | x :: xs, u :: us, h, g => by
    obtain ⟨u', e, r⟩ := g 0 x rfl
    have e' : u = u' := by simpa using e
    subst e'
    exact .cons r (mO (by simpa using h) fun i v hv => by
      obtain ⟨w, e2, r2⟩ := g (i + 1) v (by simpa using hv)
      exact ⟨w, by simpa using e2, r2⟩)
theorem sr {e : Expr} {te : TE} {p p1 p2 pos : Pos} (hc : X.calm = true) (hg : Gl X "list") (hm : X.mg "list" = none) (FT : Gl X "range") (FU : X.mg "range" = none) (he : PE X e te) (hs : starEach [e] X.env = [(false, eval e X.env)] := by rfl) :
    PE X (.Call (.Name "list" p) [.Call (.Name "range" p1) [e] [] p2] [] pos) (fun σ H Q => te σ H fun x H1 => ∃ j : Int, x = .int j ∧ -(2 ^ 24) ≤ j ∧ j ≤ 2 ^ 24 ∧ ∀ l, H1 l = none → Q (.ref l) (upd H1 l (.lst ((List.range j.toNat).map fun i => V.int (i : Nat))))) := by
  refine ⟨?_⟩
  intro pins s σ H Q I h
  refine wpAny_Call_Name_kw (fZ I hg hm (by decide +kernel : bootBuiltins "list" = some (.type "list")) ?_)
  refine PyProof.Rows.callWith_type1 ?_ rfl rfl
  show wpAny _ _ (spliced ((false, eval (.Call (.Name "range" p1) [e] [] p2) X.env) :: [])) _ _ s
  refine Calls.spliced_cons ?_
  refine Call_ (fZ I FT FU boot_range (PyProof.Rows.callWith_type1 ?_ hs rfl))
  rw [hs]
  refine Calls.spliced_cons (thn (he pins s σ H _ I h) fun v s1 ⟨x, H1, I1, r1, q1⟩ => Calls.spliced_nil ?_)
  obtain ⟨j, rfl, b1, b2, q⟩ := q1
  obtain ⟨t, rfl⟩ := r1
  refine call_range_1 ?_
  refine Calls.spliced_nil ?_
  refine call_list_range (n := j.toNat) (I1.ok.hd hc) (IsRange.new ..) (small_one (by omega) (by omega) (by omega) (by omega)) (by rw [PyProof.Rows.rangeSize_nat]; simp) (by omega) fun h' tk hZ c' hk hS hit => ?_
  have I2 : Inv X pins σ H1 { s1 with heap := s1.heap.push { cls := .type "range", data := .fields #[.int 0 s1.toks, .int j t, .int 1 (s1.toks + 1)] }, toks := s1.toks + 1 + 1 } := I1.kept fun b o e => Heap.get?_push_of_some _ e
  obtain ⟨hsz, oi⟩ := hit
  have rv : Vals ((List.range j.toNat).map fun i => V.int (i : Nat)) hZ.toList := by
    refine mO (by simpa using hsz.symm) fun i v e => ?_
    rw [List.getElem?_map] at e
    cases q2 : (List.range j.toNat)[i]? with
    | none => rw [q2] at e; cases e
    | some k =>
      rw [q2] at e
      have ek : k = i := by
        obtain ⟨_, e3⟩ := List.getElem?_eq_some_iff.mp q2
        simpa using e3.symm
      have hi : i < hZ.size := by
        have := (List.getElem?_eq_some_iff.mp q2).1
        rw [List.length_range] at this
        omega
      obtain ⟨t2, e4⟩ := oi i hZ[i] (by simp [hi])
      refine ⟨hZ[i], by simp [hi], ?_⟩
      rw [e4]
      have e5 : v = V.int (k : Nat) := (Option.some.inj e).symm
      rw [e5, ek]
      exact ⟨t2, by simp⟩
  have ob : ObjOk X.prog X.w (upd H1 (s1.heap.push { cls := .type "range", data := .fields #[.int 0 s1.toks, .int j t, .int 1 (s1.toks + 1)] }).objs.size (.lst ((List.range j.toNat).map fun i => V.int (i : Nat)))) h' (s1.heap.push { cls := .type "range", data := .fields #[.int 0 s1.toks, .int j t, .int 1 (s1.toks + 1)] }).objs.size (.lst ((List.range j.toNat).map fun i => V.int (i : Nat))) := by
    refine ⟨?_, hZ.toList, c', rv, by simpa using hS⟩
    rw [List.length_map, List.length_range]
    exact Nat.le_trans (show j.toNat ≤ 2 ^ 24 by omega) (by decide)
  exact ⟨.ref _, _, I2.laid (t' := tk) hk (Nat.le_refl _) ob, rfl, q _ (I2.hok.fresh (Nat.le_refl _))⟩
end
theorem FV : bootBuiltins "int" = some (.type "int") := by decide +kernel
theorem FW : bootBuiltins "str" = some (.type "str") := by decide +kernel
theorem Ds : bootBuiltins "bool" = some (.type "bool") := by decide +kernel
theorem eF : bootBuiltins "tuple" = some (.type "tuple") := by decide +kernel
theorem Du : bootBuiltins "list" = some (.type "list") := by decide +kernel
theorem yw : bootBuiltins "min" = some (.builtin "min") := by decide +kernel
theorem FX : bootBuiltins "max" = some (.builtin "max") := by decide +kernel
theorem FY : bootBuiltins "abs" = some (.builtin "abs") := by decide +kernel
theorem c7 : bootBuiltins "isinstance" = some (.builtin "isinstance") := by decide +kernel
structure Bl (mg : Str → Option Value) : Prop where
  len_ : mg "len" = none
  range_ : mg "range" = none
  min_ : mg "min" = none
  max_ : mg "max" = none
  abs_ : mg "abs" = none
  list_ : mg "list" = none
  tuple_ : mg "tuple" = none
  int_ : mg "int" = none
  str_ : mg "str" = none
  bool_ : mg "bool" = none
  isinstance_ : mg "isinstance" = none
  all_ : mg "all" = none
  set_ : mg "set" = none
  sorted_ : mg "sorted" = none
  zip_ : mg "zip" = none
  enumerate_ : mg "enumerate" = none
  sum_ : mg "sum" = none
  reversed_ : mg "reversed" = none
  divmod_ : mg "divmod" = none
  any_ : mg "any" = none
  ValueError_ : mg "ValueError" = none
structure Df (K : PySem.W.Frag) (mg : Str → Option Value) (x : Str) (st : Stmt) (ps : List Str) (f : Addr) (fd : FuncData) : Prop where
  fn : qk K x x st f fd
  bd : Binds K fd ps []
  mg : mg x = some (.ref f)
structure uU (base : Heap) (fd : FuncData) (c P : Addr) : Prop where
  code : fd.code = .ref c
  hd : PySem.W.CodeHd base c P
section
variable {P : Program} {w : World} {K : PySem.W.Frag} {mg : Str → Option Value} {base : Heap}
theorem qk.MG {x qual : Str} {st : Stmt} {f : Addr} {fd : FuncData} {N ps : List Str} {k : Nat} {sp : Sp} (F : qk K x qual st f fd) (S : aQ N ps (ai st)) (len : ∀ vs H Q E, sp vs H Q E → vs.length = ps.length)
    (j7 : ∀ (A : Around) (outer : List Env) (s : Shared) (H : Hp) (vs : List V) (Q : VK) (E : XK), bE k (A.deeper (envOfC qual (ai st) s.heap.objs.size f fd.code)) → sp vs H Q E →
      ∃ t, fQ (fm bf P w K mg base N qual (ai st) f fd.code A outer s H E).kO (bz st) t ∧ t { nx := fun _ H' => Q .aq H', rt := Q } (start N vs) H) : FnOk P w K mg base bf (k + 1) f fd ps sp := by
  obtain ⟨oc, od, kV, doc, pm, an, cm, ct, jt, rfl, lk, dA⟩ := F.ex
  refine vQ lk dA S len fun A outer s H vs Q E hr ju => ?_
  obtain ⟨t, h, q⟩ := j7 A outer s H vs Q E hr ju
  exact ⟨t, h.kO, q⟩
end
noncomputable def O0 : V → Bool | .int _ => true | _ => false
noncomputable def below (m : Int) : V → Bool | .int i => decide (0 ≤ i) && decide (i < m) | _ => false
structure eu (af : List (List Int)) (w : Nat) : Prop where
  one : 1 ≤ af.length
  nine : af.length ≤ 9
  wid : w = 2 ∨ w = 3
  row : ∀ r ∈ af, r.length = w ∧ ∀ g ∈ r, 0 ≤ g ∧ g < (af.length : Int)
noncomputable def Ce (tb : List Addr) (H : Hp) : Prop := ∀ p ∈ tb, Tb p H
noncomputable def IM (H : Hp) (b : Addr) : Prop := ∃ c m : Int, H b = some (.lst [.int c, .int m]) ∧ 0 ≤ c ∧ 0 ≤ m
noncomputable def Runs (J : It) (ys : List V) (H : Hp) : Prop := ∀ i, (i < ys.length → J.go i H ∧ ∀ x H', J.yld i H x H' → H' = H ∧ ys[i]? = some x) ∧ (ys.length ≤ i → J.stop i H)
theorem AR {K : PySem.W.Frag} {a : Addr} {ys : List V} {H : Hp} (h : ck K H a ys) : Runs (E4 K a) ys H := fun i =>
  ⟨fun hi => ⟨⟨ys, ys[i], h, List.getElem?_eq_getElem hi⟩, fun x H' y => ⟨y.1, y.2 ys h⟩⟩, fun hi => ⟨ys, h, hi⟩⟩
theorem yx {K : PySem.W.Frag} {a : Addr} {ys : List V} {H : Hp} (h : bB K H a ys) : Runs (E3 K a) ys H := fun i =>
  ⟨fun hi => ⟨⟨ys, ys[i], h, List.getElem?_eq_getElem hi⟩, fun x H' y => ⟨y.1, y.2 ys h⟩⟩, fun hi => ⟨ys, h, hi⟩⟩
theorem oj {lo : Int} {n : Nat} {H : Hp} : Runs (xP lo n) ((List.range n).map fun i => V.int (lo + (i : Nat))) H := fun i => by
  have el : ((List.range n).map fun i => V.int (lo + (i : Nat))).length = n := by simp
  rw [el]
  refine ⟨fun hi => ⟨hi, fun x H' y => ?_⟩, fun hi => hi⟩
  obtain ⟨e1, e2⟩ := y
  refine ⟨e1, ?_⟩
  rw [e2, List.getElem?_map, List.getElem?_range hi]
  rfl
section
variable {X : Cx} {K : PySem.W.Frag}
theorem uV (h : X.K = K) : kS X (JR K) := h ▸ FA
theorem yy (h : X.K = K) : cW X (.builtin "len") (fun xs H Q => ∃ x n, xs = [x] ∧ Fm K x H n ∧ Q (.int n) H) := h ▸ AB
theorem rk (h : X.K = K) : cW X (.type "list") (fun xs H Q => ∃ p ys, xs = [.ref p] ∧ (bB K H p ys ∨ ck K H p ys) ∧ ∀ l, H l = none → Q (.ref l) (upd H l (.lst ys))) := h ▸ rZ
theorem pz (h : X.K = K) : cW X (.type "tuple") (fun xs H Q => ∃ p ys, xs = [.ref p] ∧ ((bB K H p ys ∧ ∀ l, H l = none → Q (.ref l) (upd H l (.tup ys))) ∨ (ck K H p ys ∧ Q (.ref p) H))) := h ▸ rj
theorem su (h : X.K = K) : cW X (.builtin "isinstance") (fun xs H Q => ∃ x T t b, xs = [x, .ty T] ∧ fD K H x t ∧ PySem.W.kitOne K t (.type T) = some b ∧ Q (.bl b) H) := h ▸ uj
theorem AU {tg l : Expr} {tl : TE} (h : X.K = K) (hl : PE X l tl) : PI X tg l (B6 K tl) := h ▸ De hl
theorem Dw {tg l : Expr} {tl : TE} (h : X.K = K) (hl : PE X l tl) : PI X tg l (E5 K tl) := h ▸ E6 hl
variable {o e : Expr} {es : List Expr} {to : TE} {t : TA} {name : Str} {apos aY : Pos} {T id : String} {r : V → List V → Hp → VK → Prop}
theorem FZ (h : X.K = K) (pa : PlainAttrs T) (slot : Slot T name id) (yf : typeOf (.builtin id) = pure (.type "method_descriptor")) (hm : Ft X id r) (ho : PE X o to) (ha : PA X (e :: es) t) (n6 : attributeBase o name X.env (eval o X.env) = eval o X.env := by rfl)
    (sd : ((backTo aY (starEach (e :: es) X.env)).all (fun x => !x.1) && (backToKw aY (keywordEach [] X.env)).all (fun x => x.1.isSome)
      && decide ((e :: es).length + ([] : List Keyword).length + (if ([] : List Keyword).isEmpty then 0 else 1) < 30)) = true := by rfl)
    (hline : (apos.endLine == aY.line) = true := by rfl) (hs : starEach (e :: es) X.env = (false, eval e X.env) :: starEach es X.env := by rfl) (kU : (backTo aY (starEach es X.env)).any (·.1) = false := by rfl) :
    PE X (.Call (.Attribute o name apos) (e :: es) [] aY) (JS K T r to t) := h ▸ IH pa slot yf hm ho ha n6 sd hline hs kU
end
noncomputable abbrev bM (K : PySem.W.Frag) (x : Str) (st : Stmt) : Prop :=
  ∃ (f : Addr) (oc : Value) (od : Option Addr) (sl : Array (Option Value)) (kV dc pm : Value) (an : Option Addr) (cd ct : Value),
    PySem.W.nsIn K mainGlobals x = some (some (.ref f)) ∧ K.lookup f = some ⟨oc, od, .func (PySem.W.fnOf x x (cE st) (bz st) (ai st) .none kV dc pm an cd ct), sl⟩ ∧ PySem.W.codeIn K cd x = true ∧ PySem.W.keepIn K (.ref f) = true
theorem aZ {K : PySem.W.Frag} {x : Str} {st : Stmt} {f : Addr} {oc : Value} {od : Option Addr} {sl : Array (Option Value)} {kV dc pm : Value} {an : Option Addr} {cd ct : Value} (a : PySem.W.nsIn K mainGlobals x = some (some (.ref f)))
    (l : K.lookup f = some ⟨oc, od, .func (PySem.W.fnOf x x (cE st) (bz st) (ai st) .none kV dc pm an cd ct), sl⟩) (c : PySem.W.codeIn K cd x = true) (k : PySem.W.keepIn K (.ref f) = true) : bM K x st := ⟨f, oc, od, sl, kV, dc, pm, an, cd, ct, a, l, c, k⟩
theorem AV {K : PySem.W.Frag} {x : Str} {z : Str} {tk : Tok} (a : PySem.W.nsIn K mainGlobals x = some (some (.str z tk))) : ∃ tk, PySem.W.nsIn K mainGlobals x = some (some (.str z tk)) := ⟨tk, a⟩
theorem AW {K : PySem.W.Frag} {x : Str} {z : Int} {tk : Tok} (a : PySem.W.nsIn K mainGlobals x = some (some (.int z tk))) : ∃ tk, PySem.W.nsIn K mainGlobals x = some (some (.int z tk)) := ⟨tk, a⟩
section
variable {K : PySem.W.Frag} {mg : Str → Option Value} {h base : Heap}
theorem bM.df {x : Str} {st : Stmt} (d : bM K x st) (X : K.In h) (G : h.Ns mainGlobals mg) (ps : List Str)
    (hb : ∀ (kV doc pm : Value) (an : Option Addr) (cm ct : Value) (us : List Value), us.length = ps.length → bindArgs (PySem.W.fnOf x x (cE st) (bz st) (ai st) .none kV doc pm an cm ct) ⟨us, []⟩ = pure (ps.zip us)) :
    ∃ f fd, Df K mg x st ps f fd := by
  obtain ⟨f, oc, od, sl, kV, dc, pm, an, cd, ct, a, l, c, k⟩ := d
  have F := FJ (st := st) l c k
  exact ⟨f, _, F, F.binds hb, PySem.W.mg_of X G a⟩
theorem om {x : Str} {st : Stmt} {ps : List Str} {f p : Addr} {fd : FuncData} (D : Df K mg x st ps f fd) (X : K.In h)
    (t : ∃ f o fd c, mg x = some (.ref f) ∧ h.get? f = some o ∧ o.data = .func fd ∧ fd.code = .ref c ∧ PySem.W.CodeHd h c p) (tr : ∀ c p, PySem.W.CodeHd h c p → PySem.W.CodeHd base c p) : ∃ c, uU base fd c p := by
  obtain ⟨f', o, Cg, c, e1, e2, e3, e4, e5⟩ := t
  obtain ⟨oc, od, kV, doc, pm, an, cm, ct, jt, rfl, lk, dA⟩ := D.fn.ex
  have e := D.mg.symm.trans e1
  cases e
  have q := (X _ _ lk).symm.trans e2
  cases q
  cases e3
  exact ⟨c, e4, tr _ _ e5⟩
theorem Df.bind1 {x y : Str} {st : Stmt} {f : Addr} {fd : FuncData} (D : Df K mg x st [y] f fd) (s : Shared) (v : Value)
    (hb : ∀ (kV doc pm : Value) (an : Option Addr) (cm ct : Value) (u : Value), bindArgs (PySem.W.fnOf x x (cE st) (bz st) (ai st) .none kV doc pm an cm ct) ⟨[u], []⟩ = pure [(y, u)]) : BindsTo s fd ⟨[v], []⟩ [(y, v)] := by
  obtain ⟨oc, od, kV, doc, pm, an, cm, ct, jt, rfl, lk, dA⟩ := D.fn.ex
  exact .of_eq (hb kV doc pm an cm ct v)
theorem gR {α β : Type} {F : α → β → Prop} {a : α} {r : List α} {t : List β} (h : Paired F (a :: r) t) : ∃ b t', t = b :: t' ∧ F a b ∧ Paired F r t' := by
  cases h with
  | cons x y => exact ⟨_, _, rfl, x, y⟩
theorem Dx {q : Program} {nms : List Str} (h : (nms.all fun y => (recsOf q).any fun r => decide (r.name = y)) = true) : ∀ y ∈ nms, ∃ r ∈ recsOf q, r.name = y := fun y hy => by
  have := List.all_eq_true.mp h y hy
  obtain ⟨r, hr, e⟩ := List.any_eq_true.mp this
  exact ⟨r, hr, of_decide_eq_true e⟩
end
noncomputable def jP (xs : Array Nat) : Prop := xs.toList.Pairwise (· < ·)
theorem oo {xs : Array Nat} (h : jP xs) {i j : Nat} (J1 : i < j) (hj : j < xs.size) : xs[i] < xs[j] := by
  have := List.pairwise_iff_getElem.mp h i j (by simpa using Nat.lt_trans J1 hj) (by simpa using hj) J1
  simpa using this
theorem below_go {xs : Array Nat} {v : Nat} (h : jP xs) : ∀ (fuel lo hi : Nat), hi - lo ≤ fuel → lo ≤ hi → hi ≤ xs.size → (∀ i (dU : i < xs.size), i < lo → xs[i] < v) → (∀ i (dU : i < xs.size), hi ≤ i → v ≤ xs[i]) →
    SetTable.below.go xs v fuel lo hi ≤ xs.size ∧ (∀ i (dU : i < xs.size), i < SetTable.below.go xs v fuel lo hi → xs[i] < v) ∧ ∀ i (dU : i < xs.size), SetTable.below.go xs v fuel lo hi ≤ i → v ≤ xs[i]
  | 0, lo, hi, hf, h1, h2, ha, hb => by
    have e : lo = hi := by omega
    subst e
    exact ⟨h2, ha, hb⟩
  | fuel + 1, lo, hi, hf, h1, h2, ha, hb => by
    unfold SetTable.below.go
    by_cases aT : lo < hi
    · rw [if_pos aT]
      dsimp only
      have hm : (lo + hi) / 2 < xs.size := by omega
      have e : xs.getD ((lo + hi) / 2) v = xs[(lo + hi) / 2] := by simp [Array.getD, hm]
      rw [e]
      by_cases hc : xs[(lo + hi) / 2] < v
      · rw [if_pos hc]
        refine below_go h fuel _ _ (by omega) (by omega) h2 (fun i dU hl => ?_) hb
        by_cases ei : i = (lo + hi) / 2
        · subst ei; exact hc
        · exact Nat.lt_trans (oo h (show i < (lo + hi) / 2 by omega) hm) hc
      · rw [if_neg hc]
        refine below_go h fuel _ _ (by omega) (by omega) (by omega) ha (fun i dU hl => ?_)
        by_cases ei : i = (lo + hi) / 2
        · subst ei; exact Nat.le_of_not_lt hc
        · exact Nat.le_trans (Nat.le_of_not_lt hc) (Nat.le_of_lt (oo h (show (lo + hi) / 2 < i by omega) dU))
    · rw [if_neg aT]
      have e : lo = hi := by omega
      subst e
      exact ⟨h2, ha, hb⟩
theorem ng {xs : Array Nat} (v : Nat) (h : jP xs) : SetTable.below xs v ≤ xs.size ∧ (∀ i (dU : i < xs.size), i < SetTable.below xs v → xs[i] < v) ∧ ∀ i (dU : i < xs.size), SetTable.below xs v ≤ i → v ≤ xs[i] :=
  below_go h _ _ _ (by omega) (Nat.zero_le _) (Nat.le_refl _) (fun i _ z => absurd z (Nat.not_lt_zero _)) (fun i z z' => absurd z (Nat.not_lt.mpr z'))
theorem vX {xs : Array Nat} {v : Nat} (h : jP xs) (hn : xs[SetTable.below xs v]? ≠ some v) : jP (SetTable.insertAt xs (SetTable.below xs v) v) := by
  obtain ⟨b0, b1, b2⟩ := ng v h
  generalize SetTable.below xs v = p at *
  unfold jP SetTable.insertAt
  have e : ((xs.extract 0 p).push v ++ xs.extract p xs.size).toList = xs.toList.take p ++ [v] ++ xs.toList.drop p := by
    simp
    exact List.take_of_length_le (by simp)
  rw [e]
  have hl : ∀ y ∈ xs.toList.take p, y < v := fun y hy => by
    obtain ⟨i, hi, rfl⟩ := List.mem_take_iff_getElem.mp hy
    have mP : i < p ∧ i < xs.size := by simpa [Nat.lt_min] using hi
    simpa using b1 i mP.2 mP.1
  have hr : ∀ y ∈ xs.toList.drop p, v < y := fun y hy => by
    obtain ⟨i, hi, rfl⟩ := List.mem_drop_iff_getElem.mp hy
    have mP : p + i < xs.size := by rw [Nat.add_comm]; simpa using hi
    have h1 : v ≤ xs[p + i] := b2 (p + i) mP (Nat.le_add_right _ _)
    have h2 : v ≠ xs[p + i] := fun z => by
      by_cases MH : i = 0
      · subst MH
        exact hn (by rw [Nat.add_zero] at mP; rw [Array.getElem?_eq_getElem mP]; simpa using z.symm)
      · have q := oo h (show p < p + i by omega) mP
        have q2 := b2 p (by omega) (Nat.le_refl _)
        omega
    have : xs.toList[p + i]'(by simpa using mP) = xs[p + i] := by simp
    rw [this]
    omega
  have hp := List.take_append_drop p xs.toList
  have MI : (xs.toList.take p ++ xs.toList.drop p).Pairwise (· < ·) := by rw [hp]; exact h
  obtain ⟨q1, q2, q3⟩ := List.pairwise_append.mp MI
  refine List.pairwise_append.mpr ⟨List.pairwise_append.mpr ⟨q1, List.pairwise_singleton _ _, fun a ha b hb => ?_⟩, q2, fun a ha b hb => ?_⟩
  · rw [List.mem_singleton] at hb; subst hb; exact hl a ha
  · rcases List.mem_append.mp ha with ha | ha
    · exact q3 a ha b hb
    · rw [List.mem_singleton] at ha; subst ha; exact hr b hb
structure bK (w : World) (t : SetTable) : Prop where
  dum : t.dummies = #[]
  ris : jP t.place
  led : t.led = !w.params.followText "set-order"
theorem yz (n : Nat) : jP (Array.range n) := by
  unfold jP
  rw [Array.toList_range]
  exact List.pairwise_lt_range
theorem bK.standIn {w : World} {t : SetTable} (h : bK w t) (n : Nat) : bK w (t.standIn n) := ⟨rfl, yz n, h.led⟩
theorem bK.orStandIn {w : World} {t : SetTable} (h : bK w t) (n : Nat) : bK w (t.orStandIn n) := by
  unfold SetTable.orStandIn
  split
  · exact h
  · exact h.standIn n
theorem uW (j : Nat) : SetTable.has #[] j = false := by
  unfold SetTable.has
  have : (#[] : Array Nat)[SetTable.below #[] j]? = none := by simp
  rw [this]
  rfl
theorem sv {w : World} {t : SetTable} (h : bK w t) {hashAt : Nat → Int} {hh : Int} {j : Nat} {d : Option Nat} : ∀ (fuel : Nat) (p : SetTable.Probe), p.dummy = none → SetTable.probe.go t hashAt hh fuel p = some (.empty j d) → t.slot j = .empty ∧ d = none
  | 0, p, _, e => by simp [SetTable.probe.go] at e
  | fuel + 1, p, hp, e => by
    unfold SetTable.probe.go at e
    have Lq : ∀ p : SetTable.Probe, (t.advance p).dummy = p.dummy := fun p => by
      unfold SetTable.advance
      split <;> rfl
    cases hs : t.slot p.j with
    | empty =>
      rw [hs] at e
      have e' := Option.some.inj e
      injection e' with e1 e2
      exact ⟨by rw [← e1]; exact hs, by rw [← e2]; exact hp⟩
    | dummy =>
      exfalso
      unfold SetTable.slot at hs
      dsimp only at hs
      rw [h.dum, uW] at hs
      split at hs <;> simp at hs
    | live i =>
      rw [hs] at e
      dsimp only at e
      split at e
      · simp at e
      · exact sv h fuel _ (by rw [Lq]; exact hp) e
theorem vY {w : World} {t : SetTable} (h : bK w t) {j : Nat} (e : t.slot j = .empty) : t.place[SetTable.below t.place j]? ≠ some j := fun z => by
  unfold SetTable.slot at e
  dsimp only at e
  rw [z] at e
  simp at e
theorem bK.put {w : World} {t : SetTable} (h : bK w t) {j : Nat} (e : t.slot j = .empty) : bK w (t.put j).1 := by
  unfold SetTable.put
  refine ⟨?_, vX h.ris (vY h e), h.led⟩
  show (if SetTable.has t.dummies j then _ else t.dummies) = #[]
  rw [h.dum, uW]
  rfl
theorem bK.layNew {w : World} {t : SetTable} (h : bK w t) (es : Array (Int × Value)) (hh : Int) (x : Value) : bK w (layNew t es hh x).2.1 := by
  unfold PySem.layNew
  split
  · rename_i slot nh hf
    unfold SetTable.freeSlot at hf
    refine (bK.put h ?_).orStandIn _
    split at hf
    · rename_i j dummy hp
      obtain ⟨e1, e2⟩ := sv h _ _ rfl hp
      subst e2
      have := Option.some.inj hf
      injection this with z1 _
      rw [← z1]
      exact e1
    · cases hf
  · exact h.standIn _
theorem AX {α : Type} (f : Nat → Option α) (n : Nat) : jP (((List.range n).filterMap fun j => (f j).map (j, ·)).map (·.1)).toArray := by
  unfold jP
  have e : (((List.range n).filterMap fun j => (f j).map (j, ·)).map (·.1)).toArray.toList = (List.range n).filter fun j => (f j).isSome := by
    rw [List.toList_toArray]
    induction List.range n with
    | nil => rfl
    | cons a l ih =>
      cases hf : f a with
      | none => simp [List.filterMap_cons, hf, ih]
      | some b => simp [List.filterMap_cons, hf, ih]
  rw [e]
  exact List.Pairwise.filter _ List.pairwise_lt_range
theorem bK.IP {w : World} {t : SetTable} (h : bK w t) (es : Array (Int × Value)) (wanted : Nat) : bK w (relayAll t es wanted).2.1 := by
  unfold relayAll
  split
  · rename_i t' order hr
    dsimp only
    split
    · unfold SetTable.relaid SetTable.laid at hr
      simp only [Option.bind_eq_bind, Option.bind_eq_some_iff, Option.pure_def] at hr
      obtain ⟨owner, _, hr⟩ := hr
      have := Option.some.inj hr
      injection this with z1 _
      subst z1
      exact ⟨rfl, AX (fun j => owner.getD j none) _, h.led⟩
    · exact h.standIn _
  · exact h.standIn _
theorem bK.AY {w : World} {t : SetTable} (h : bK w t) (b : Bool) : bK w (if b = true then t else { t with plain := false }) := by
  split
  · exact h
  · exact ⟨h.dum, h.ris, h.led⟩
noncomputable def dh (e : Int × Value) : Int := match e.2 with | .int i _ => i | _ => 0
noncomputable def bF (P : Program) (w : World) (h : Heap) (a : Addr) (ns : List Int) : Prop :=
  ∃ o es ep t, h.get? a = some o ∧ o.ExactSet ∧ o.data = .set es ep t ∧ ElemsOf (intKind P w) es.toList ∧ (es.toList.map dh).Perm ns ∧ ns.Nodup ∧ es.size < scanBound ∧ t.fits es.size = true ∧ bK w t
theorem bF.bO {P : Program} {w : World} {h h' : Heap} {a : Addr} {ns : List Int} (x : bF P w h a ns) (k : ∀ o, h.get? a = some o → h'.get? a = some o) : bF P w h' a ns :=
  let ⟨o, es, ep, t, e, r⟩ := x; ⟨o, es, ep, t, k o e, r⟩
noncomputable def fE (P : Program) (w : World) (a : Addr) (ns : List Int) : HO := .ext fun h => bF P w h a ns
noncomputable def cB (ns : List Int) (m : Int) : List Int := if m ∈ ns then ns else ns ++ [m]
theorem uk {P : Program} {w : World} {es : List (Int × Value)} (h : ElemsOf (intKind P w) es) {k : Int} : (∃ e ∈ es, (intKind P w).is k e.2 = true) ↔ k ∈ es.map dh := by
  constructor
  · rintro ⟨e, he, hk⟩
    obtain ⟨t, e2⟩ := Value.isInt_shape (k := k) (v := e.2) hk
    exact List.mem_map.mpr ⟨e, he, by unfold dh; rw [e2]⟩
  · intro hm
    obtain ⟨e, he, q⟩ := List.mem_map.mp hm
    obtain ⟨⟨k', qp, _⟩, _⟩ := h e he
    obtain ⟨t, e2⟩ := Value.isInt_shape (k := k') (v := e.2) qp
    have : k' = k := by rw [← q]; unfold dh; rw [e2]
    exact ⟨e, he, this ▸ qp⟩
section
variable {P : Program} {w : World} {A : Around} {E : Value → Shared → Prop} {s : Shared}
theorem oq {h : Heap} {a : Addr} {o : Obj} {es : Array (Int × Value)} {ep : Nat} {t : SetTable} (ho : h.get? a = some o) (hex : o.ExactSet) (hd : o.data = .set es ep t)
    {gU : Array (Int × Value)} {t' : SetTable} {ns : List Int} (jv : ElemsOf (intKind P w) gU.toList) (hp : (gU.toList.map dh).Perm ns) (hn : ns.Nodup) (hb : gU.size < scanBound) (hf : t'.fits gU.size = true) (ht : bK w t') :
    (h.update a (Obj.putSet gU t')).get? a = some { o with data := .set gU (ep + 1) t' } ∧ bF P w (h.update a (Obj.putSet gU t')) a ns := by
  have hg : (h.update a (Obj.putSet gU t')).get? a = some { o with data := .set gU (ep + 1) t' } := by
    have := Heap.get?_update_self (Obj.putSet gU t') ho (by rw [putSet_of gU t' hd]; rfl)
    rw [putSet_of gU t' hd] at this; exact this
  exact ⟨hg, _, gU, ep + 1, t', hg, hex, rfl, jv, hp, hn, hb, hf, ht⟩
theorem sx {g : Bool → Sem Unit} (hg : ∀ (b : Bool) (az : Shared) (Q' : Unit → Shared → Prop), Q' () az → wpAny (model P w) A (g b) Q' E az)
    {a : Addr} {o : Obj} {es : Array (Int × Value)} {ep : Nat} {t : SetTable} (ho : s.heap.get? a = some o) (hex : o.ExactSet) (hd : o.data = .set es ep t)
    {dW : Array (Int × Value)} {t2 : SetTable} {ns : List Int} (sy : ElemsOf (intKind P w) dW.toList) (yA : (dW.toList.map dh).Perm ns) (hn : ns.Nodup)
    (ou : dW.size < scanBound) (MJ : t2.fits dW.size = true) (J4 : bK w t2) {nh : Bool} {R : Option Bool → Shared → Prop}
    (h : ∀ h', Heap.SameBut a s.heap h' → bF P w h' a ns → R (some true) { s with heap := h' }) :
    wpAny (model P w) A (do
        storeSet a dW t2
        if (!nh && t2.tooFull) = true then do
            g (relayAll t2 dW (SetTable.grown dW.size)).2.2
            storeSet a (relayAll t2 dW (SetTable.grown dW.size)).1 (relayAll t2 dW (SetTable.grown dW.size)).2.1
            pure (some true)
          else pure (some true)) R E s := by
  refine wpAny_bind (wpAny_storeSet_of ho hd ?_ (fits_of_scanBound ou))
  obtain ⟨J5, yB⟩ := oq (P := P) (w := w) ho hex hd sy yA hn ou MJ J4
  have F0 := Heap.SameBut.update s.heap a (Obj.putSet dW t2)
  split
  · have hp := relayAll_perm t2 dW (SetTable.grown dW.size)
    have yl := relayAll_fits t2 dW (SetTable.grown dW.size)
    have k4 := J4.IP dW (SetTable.grown dW.size)
    generalize relayAll t2 dW (SetTable.grown dW.size) = Rl at hp yl k4 ⊢
    obtain ⟨J6, t3, OC⟩ := Rl
    dsimp only at hp yl k4 ⊢
    have hsz : J6.size = dW.size := by rw [← Array.length_toList, hp.length_eq, Array.length_toList]
    have uX : J6.size < scanBound := by rw [hsz]; exact ou
    refine wpAny_bind (hg _ _ _ (wpAny_bind (wpAny_storeSet_of J5 rfl ?_ (fits_of_scanBound uX))))
    obtain ⟨_, F1⟩ := oq (P := P) (w := w) J5 hex rfl (sy.perm hp) ((hp.map dh).trans yA) hn uX yl k4
    exact wpAny_pure (h _ (F0.trans (Heap.SameBut.update _ a _)) F1)
  · exact wpAny_pure (h _ F0 yB)
theorem qt {a : Addr} {ns : List Int} {m : Int} {tk : Tok} {Q : Bool → Shared → Prop} (hS : bF P w s.heap a ns) (j9 : ns.length + 1 < scanBound)
    (h : ∀ h', Heap.SameBut a s.heap h' → bF P w h' a (cB ns m) → Q (decide (m ∉ ns)) { s with heap := h', toks := s.toks + 1 }) : wpAny (model P w) A (setAdd a (.int m tk)) Q E s := by
  unfold setAdd
  refine wpAny_holding (wpAny_bind ((intKind P w).pyHash (k := m) (intKind_is _ _ _ _) ?_))
  have vP : (intKind P w).is m (.int m tk) = true := intKind_is _ _ _ _
  obtain ⟨o, es, ep, t, ho, hex, hd, jv, hp, hn, hb, hf, ht⟩ := hS
  have vZ : ∀ k, (∃ e ∈ es.toList, (intKind P w).is k e.2 = true) ↔ k ∈ ns := fun k => (uk jv).trans hp.mem_iff
  have hlen : es.size = ns.length := by rw [← Array.length_toList, ← hp.length_eq, List.length_map]
  unfold setAddHashed setAddHashedIn
  refine wpAny_holding (wpAny_bind (wpAny_setState_of (s := { s with toks := s.toks + 1 }) ho hd hf ?_))
  dsimp only
  rw [byScan_of (x := .int m tk) rfl hb jv]
  simp only [↓reduceIte]
  unfold setAddByScan
  refine wpAny_bind (wpAny_bind (wpAny_rule (wpAny_bind (wpAny_setScan_of vP ho hd hf jv ?_))))
  cases hr : List.findIdx? (fun e => (intKind P w).is m e.2) es.toList with
  | some j =>
    dsimp only
    obtain ⟨hj, MK, _⟩ := List.findIdx?_eq_some_iff_getElem.mp hr
    have hm : m ∈ ns := (vZ m).mp ⟨es.toList[j], List.getElem_mem hj, MK⟩
    have := h s.heap (Heap.SameBut.refl a s.heap) (by unfold cB; rw [if_pos hm]; exact ⟨o, es, ep, t, ho, hex, hd, jv, hp, hn, hb, hf, ht⟩)
    rw [decide_eq_false (fun z => z hm)] at this
    exact wpAny_pure (wpAny_pure this)
  | none =>
    dsimp only
    have hm : m ∉ ns := fun z => by
      obtain ⟨e, he, q⟩ := (vZ m).mpr z
      have := List.findIdx?_eq_none_iff.mp hr e he
      rw [q] at this; cases this
    have mh := layNew_perm t es ((intKind P w).hash m) (.int m tk)
    have ow := layNew_fits t es ((intKind P w).hash m) (.int m tk)
    have iW := ht.layNew es ((intKind P w).hash m) (.int m tk)
    generalize layNew t es ((intKind P w).hash m) (.int m tk) = L at mh ow iW ⊢
    obtain ⟨dW, t1, nh, OM⟩ := L
    dsimp only at mh ow iW ⊢
    rw [Array.toList_push] at mh
    have sy : ElemsOf (intKind P w) dW.toList := (jv.push vP rfl).perm mh
    have F2 : cB ns m = ns ++ [m] := by unfold cB; rw [if_neg hm]
    have yA : (dW.toList.map dh).Perm (cB ns m) := by
      rw [F2]
      refine (mh.map dh).trans ?_
      rw [List.map_append]
      exact List.Perm.append hp (.refl _)
    have J7 : (cB ns m).Nodup := by
      rw [F2]
      exact List.nodup_append.mpr ⟨hn, by simp, fun a ha b hb => by rw [List.mem_singleton] at hb; rw [hb]; exact fun z => hm (z ▸ ha)⟩
    have ou : dW.size < scanBound := by rw [← Array.length_toList, mh.length_eq, List.length_append, Array.length_toList, hlen]; simpa using j9
    have F3 : ∀ (b : Bool) (az : Shared) (Q' : Unit → Shared → Prop), Q' () az → wpAny (model P w) A (match b with | true => rule "set.scan.the-table-gave-way" | false => pure ()) Q' E az :=
      fun b az Q' hq => by cases b <;> first | exact wpAny_pure hq | exact wpAny_rule hq
    have F4 : ∀ h', Heap.SameBut a s.heap h' → bF P w h' a (cB ns m) → Q true { s with heap := h', toks := s.toks + 1 } := by
      intro h' gf iX
      have := h h' gf iX
      rw [decide_eq_true hm] at this
      exact this
    refine wpAny_bind (F3 _ _ _ ?_)
    split
    · refine wpAny_bind ?_
      rw [hashByValue_scannable 8 (x := .int m tk) rfl]
      refine wpAny_pure (sx (P := P) (w := w) (s := { s with toks := s.toks + 1 }) F3 ho hex hd sy yA J7 ou ?_ (iW.AY _) fun h' gf iX => wpAny_pure (F4 h' gf iX))
      split
      · exact ow
      · exact SetTable.fits_plain_off ow
    · refine wpAny_bind (wpAny_pure ?_)
      simp only [↓reduceIte]
      exact sx (P := P) (w := w) (s := { s with toks := s.toks + 1 }) F3 ho hex hd sy yA J7 ou ow iW fun h' gf iX => wpAny_pure (F4 h' gf iX)
theorem v3 {ns : List Int} (h : ns.Nodup) (m : Int) : (cB ns m).Nodup := by
  unfold cB
  split
  · exact h
  · rename_i hm
    exact List.nodup_append.mpr ⟨h, by simp, fun a ha b hb => by rw [List.mem_singleton] at hb; rw [hb]; exact fun z => hm (z ▸ ha)⟩
theorem AZ {ns : List Int} {m k : Int} : k ∈ cB ns m ↔ k ∈ ns ∨ k = m := by
  unfold cB
  split
  · rename_i hm
    exact ⟨.inl, fun h => h.elim id fun e => e ▸ hm⟩
  · simp
theorem sA {ns : List Int} {m : Int} : (cB ns m).length ≤ ns.length + 1 := by
  unfold cB
  split
  · omega
  · simp
end
noncomputable def cO (ns : List Int) : List Int := ns.foldl cB []
theorem yC (ns : List Int) (m : Int) : cO (ns ++ [m]) = cB (cO ns) m := by
  unfold cO
  rw [List.foldl_append]
  rfl
theorem v7 (ns : List Int) : (cO ns).Nodup := by
  unfold cO
  have : ∀ (l acc : List Int), acc.Nodup → (l.foldl cB acc).Nodup := fun l => by
    induction l with
    | nil => exact fun acc h => h
    | cons a l ih => exact fun acc h => ih _ (v3 h a)
  exact this ns [] .nil
theorem A0 {ns : List Int} {k : Int} : k ∈ cO ns ↔ k ∈ ns := by
  unfold cO
  have : ∀ (l acc : List Int), k ∈ l.foldl cB acc ↔ k ∈ acc ∨ k ∈ l := fun l => by
    induction l with
    | nil => intro acc; simp
    | cons a l ih =>
      intro acc
      rw [List.foldl_cons, ih, AZ, List.mem_cons]
      constructor
      · rintro ((h | h) | h)
        · exact .inl h
        · exact .inr (.inl h)
        · exact .inr (.inr h)
      · rintro (h | h | h)
        · exact .inl (.inl h)
        · exact .inl (.inr h)
        · exact .inr h
  rw [this]
  simp
theorem ka (ns : List Int) : (cO ns).length ≤ ns.length := by
  unfold cO
  have : ∀ (l acc : List Int), (l.foldl cB acc).length ≤ acc.length + l.length := fun l => by
    induction l with
    | nil => intro acc; simp
    | cons a l ih =>
      intro acc
      rw [List.foldl_cons, List.length_cons]
      have h1 := ih (cB acc a)
      have h2 := @sA acc a
      omega
  simpa using this ns []
section
variable {P : Program} {w : World} {A : Around} {R : Result → Shared → Prop} {I : Addr} {fp wr : List Addr} {G : Array GenState → Array GenState → Prop} {n : Nat} {St : Nat → Shared → Prop}
theorem A1 {vs : List Int} {Pv : Nat → Value → Prop} (W : WalksS P w A.in1 I fp wr G vs.length Pv St) (S : Addr) (sC : S ∉ fp) (A6 : ∀ (i : Nat) (v : Value), Pv i v → ∃ m t, vs[i]? = some m ∧ v = .int m t) (hb : vs.length + 1 < scanBound) :
    ∀ (k i : Nat) (s : Shared), vs.length - i = k → i ≤ vs.length → St i s → bF P w s.heap S (cO (vs.take i)) →
      (∀ s', Moved (S :: wr) G s s' → bF P w s'.heap S (cO vs) → R (.ok (.ret .none)) s') →
      codeAny (model P w) A (.builtin "set.update.loop" ⟨[.ref S, .ref I], []⟩) R s := by
  have J8 : S ∉ wr := fun h => sC (W.sub _ h)
  have sD : ∀ b ∈ wr, b ∈ S :: wr := fun b hb => List.mem_cons_of_mem _ hb
  intro k
  induction k with
  | zero =>
    intro i s hk hi mJ hS hR
    have qu : i = vs.length := by omega
    subst qu
    refine codeAny_builtin F.entry_set_update_loop ?_
    rw [Around.under_plainId F.plain_set_update_loop _]
    show wpAny _ A.in1 (pyNext (.ref I) >>= _) _ _ s
    refine wpAny_bind (W.done s _ _ mJ fun s' hm => ?_)
    rw [List.take_length] at hS
    exact wpAny_pure (hR s' (hm.mono sD) (hS.bO fun o e => hm.heap S _ J8 e))
  | succ k ih =>
    intro i s hk hi mJ hS hR
    have aT : i < vs.length := by omega
    refine codeAny_builtin F.entry_set_update_loop ?_
    rw [Around.under_plainId F.plain_set_update_loop _]
    show wpAny _ A.in1 (pyNext (.ref I) >>= _) _ _ s
    refine wpAny_bind (W.item i s _ _ aT mJ fun v s' hP Lr hm => ?_)
    obtain ⟨m, t, jQ, rfl⟩ := A6 i v hP
    have iX : bF P w s'.heap S (cO (vs.take i)) := hS.bO fun o e => hm.heap S _ J8 e
    show wpAny _ A.in1 (holding [Value.int m t] (setAdd S (.int m t)) >>= _) _ _ s'
    have j9 : (cO (vs.take i)).length + 1 < scanBound := by
      have h1 := ka (vs.take i)
      rw [List.length_take] at h1
      omega
    refine wpAny_bind (wpAny_holding (qt iX j9 fun h' gf F1 => ?_))
    have ML : bF P w h' S (cO (vs.take (i + 1))) := by
      rw [List.take_add_one, jQ]
      show bF P w h' S (cO (vs.take i ++ [m]))
      rw [yC]
      exact F1
    refine wpAny_pure ⟨plainId_quiet F.plain_set_update_loop _, ih (i + 1) _ (by omega) aT (W.frame _ s' _ _ Lr (Nat.le_succ _) fun b hb o e => ?_) ML fun bX Ls Lv => ?_⟩
    · rw [gf.2 b (fun h : b = S => sC (by rw [← h]; exact hb))]; exact e
    · refine hR bX (Moved.trans W.gtrans ((hm.mono sD).then_heap (Nat.le_succ _) fun b o hb e => ?_) Ls) Lv
      rw [gf.2 b (fun h : b = S => hb (by rw [h]; exact List.mem_cons_self))]; exact e
end
theorem sub_tuple_set : isSubtype (.type "tuple") (.type "set") = pure false := by rw [isSubtype_type]; kernel_rfl
theorem pA : isSubtype (.type "tuple") (.type "frozenset") = pure false := by rw [isSubtype_type]; kernel_rfl
section
variable {P : Program} {w : World} {A : Around} {E : Value → Shared → Prop} {s : Shared}
noncomputable abbrev fF (w : World) : Obj := { cls := .type "set", dict := none, data := .set #[] 0 (.fresh 0 0 (!w.params.followText "set-order")) }
theorem uY {h : Heap} : bF P w (h.push (fF w)) h.objs.size [] := ⟨_, #[], 0, _, Heap.get?_push_size _ rfl, ⟨rfl, rfl, rfl⟩, rfl, fun e he => by simp at he, by simp, by simp, by decide, by rfl, rfl, List.Pairwise.nil, rfl⟩
theorem A7 (a : Value) {Q₁ : Value → Shared → Prop} (h : Q₁ (.ref s.heap.objs.size) { s with heap := s.heap.push (fF w) }) :
    codeAny (model P w) A (.call (.builtin "set.__new__") ⟨[.type "set", a], []⟩) (wants Q₁ E) s := by
  refine codeAny_of_tree ?_
  show wpAny _ A.in1 (do checkBuiltinCall "set.__new__" ⟨[.type "set", a], []⟩; again (.builtin "set.__new__" ⟨[.type "set", a], []⟩)) _ _ s
  refine wpAny_bind (wpAny_of_eq (F.newCall_set_1 a) (wpAny_pure ⟨plainId_quiet F.plain_set_new _, codeAny_builtin F.entry_set_new ?_⟩))
  rw [Around.under_plainId F.plain_set_new _]
  unfold Builtin.«set.__new__» Builtin.Frozenset.newClass
  have sD := sub_set_self
  obtain ⟨hp, g, d, tk, os⟩ := s
  dsimp only
  wp_walk
  refine wpAny_askSetting (wpAny_pure ?_)
  dsimp only
  simp only [newObj]
  refine wpAny_bind (wpAny_alloc (wpAny_pure ?_))
  exact wpAny_pure h
theorem bF.typeIs {h : Heap} {a : Addr} {ns : List Int} {s : Shared} (x : bF P w s.heap a ns) : s.TypeIs (.ref a) "set" := let ⟨o, _, _, _, ho, hex, _⟩ := x; ⟨o, ho, hex.1⟩
theorem k7 {T : String} {l : Addr} {itob : Obj} {vs : List Int} {Pv : Nat → Value → Prop} {St : Addr → Nat → Heap → Prop} {Q : Value → Shared → Prop} (hh : A.handled = none)
    (hl : ∃ o, s.heap.get? l = some o) (hT : ∀ s1 : Shared, (∀ o, s.heap.get? l = some o → s1.heap.get? l = some o) → s1.TypeIs (.ref l) T) (h1 : isSubtype (.type T) (.type "set") = pure false) (h2 : isSubtype (.type T) (.type "frozenset") = pure false) (h3 : (Value.type T == Value.type "dict") = false)
    (hit : ∀ (A' : Around) (s1 : Shared) (Q' : Value → Shared → Prop) (E' : Value → Shared → Prop), (∀ o, s.heap.get? l = some o → s1.heap.get? l = some o) → Q' (.ref s1.heap.objs.size) { s1 with heap := s1.heap.push itob } → wpAny (model P w) A' (pyIter (.ref l)) Q' E' s1)
    (hW : ∀ (A' : Around) (I : Addr), A'.handled = none → l ≠ I → Walks P w A' I [I, l] [I] vs.length Pv (St I)) (MM : ∀ h1 : Heap, (∀ o, s.heap.get? l = some o → h1.get? l = some o) → St h1.objs.size 0 (h1.push itob))
    (A6 : ∀ (i : Nat) (v : Value), Pv i v → ∃ m t, vs[i]? = some m ∧ v = .int m t) (hb : vs.length + 1 < scanBound)
    (h : ∀ (h' : Heap) (tk : Nat), bF P w h' s.heap.objs.size (cO vs) → (∀ b o, s.heap.get? b = some o → h'.get? b = some o) → Q (.ref s.heap.objs.size) { s with heap := h', toks := tk }) :
    wpAny (model P w) A (call (.type "set") [.ref l]) Q E s := by
  obtain ⟨c, tl, OO⟩ := F.called_set.mro
  have OD := F.called_set.made
  have sD := F.called_set.sub
  refine wpAny_call (codeAny_of_tree ?_)
  show wpAny _ _ (callAny (.type "set") _) _ _ _
  refine wpAny_pure ⟨Code.quiet_builtin _ (by decide +kernel), codeAny_builtin F.entry_type_call ?_⟩
  rw [Around.under_plain (weight_type_call_type "set" [.ref l] []) rfl]
  have k1 := F.called_set.notType
  have k2 := F.called_set.canCreate
  have O1 := F.typeCall_set_1 (.ref l)
  repeat (any_goals (first | assumption | wp_step))
  refine codeAny_mono (A7 (P := P) (w := w) (.ref l) (E := E) (Q₁ := fun obj az => obj = .ref s.heap.objs.size ∧ az = { s with heap := s.heap.push (fF w) }) ⟨rfl, rfl⟩) fun r az hr => ?_
  cases r with
  | error e => exact hr
  | ok fl =>
    cases fl with
    | ret obj =>
      obtain ⟨rfl, rfl⟩ := hr
      have hS : (s.heap.push (fF w)).get? s.heap.objs.size = some { cls := .type "set", dict := none, data := .set #[] 0 (.fresh 0 0 (!w.params.followText "set-order")) } := Heap.get?_push_size _ rfl
      have MN : Shared.TypeIs { s with heap := s.heap.push (fF w) } (.ref s.heap.objs.size) "set" := ⟨_, hS, rfl⟩
      have kp : ∀ b o, s.heap.get? b = some o → (s.heap.push (fF w)).get? b = some o := fun b o e => Heap.get?_push_of_some _ e
      have sz : (s.heap.push (fF w)).objs.size = s.heap.objs.size + 1 := by rw [Heap.size_push]
      have F5 := F.called_set.init.lookup
      have J9 := F.called_set.init.bind (.ref s.heap.objs.size)
      repeat (any_goals (first | assumption | wp_step))
      refine codeAny_mono (codeAny_call_builtin (R := wants (fun r gF => r = .none ∧ ∃ h' tk, gF = { s with heap := h', toks := tk } ∧ bF P w h' s.heap.objs.size (cO vs) ∧
          (∀ b o, s.heap.get? b = some o → h'.get? b = some o)) E) F.called_set.init.plain F.entry_set_init (check_set_init_1 MN ?_)) fun Lw gF v8 => ?_
      · have O2 := hT { s with heap := s.heap.push (fF w) } (fun o e => kp l o e)
        unfold Builtin.«set.__init__» noKeywords Builtin.Frozenset.updateFrom
        generalize MO : pyIter = PI
        wp_walk
        subst MO
        obtain ⟨ol, sE⟩ := hl
        have Ka : l < s.heap.objs.size := Heap.lt_size sE
        refine hit _ { s with heap := s.heap.push (fF w) } _ _ (fun o e => kp l o e) ?_
        refine wpAny_bind (wpAny_runValue ?_)
        have MP : A.in1.in1.in1.handled = none := by simp [hh]
        have Lx : l ≠ (s.heap.push (fF w)).objs.size := by rw [sz]; exact Nat.ne_of_lt (Nat.lt_succ_of_lt Ka)
        have sC : s.heap.objs.size ∉ [(s.heap.push (fF w)).objs.size, l] := by
          rw [sz]; simp only [List.mem_cons, List.not_mem_nil, or_false, not_or]
          exact ⟨Nat.ne_of_lt (Nat.lt_succ_self _), Nat.ne_of_gt Ka⟩
        refine A1 ((hW _ (s.heap.push (fF w)).objs.size MP Lx).toS) s.heap.objs.size sC A6 hb (vs.length - 0) 0 _ (by omega) (Nat.zero_le _) (MM (s.heap.push (fF w)) fun o e => kp l o e) (uY.bO fun o e => Heap.get?_push_of_some _ e) ?_
        intro s' hm iX
        obtain ⟨h', g', d', yD, Ca⟩ := s'
        have eg : g' = s.gens := hm.gens
        have ed : d' = s.drawn := hm.drawn
        have eo : Ca = s.os := hm.os
        subst eg; subst ed; subst eo
        show wpAny _ _ _ _ _ _
        refine wpAny_pure ?_
        show wpAny _ _ (ret Value.none) _ _ _
        refine wpAny_pure ⟨rfl, h', yD, rfl, iX, fun b o e => ?_⟩
        have Ci : b < s.heap.objs.size := Heap.lt_size e
        refine hm.heap b o ?_ (Heap.get?_push_of_some _ (kp b o e))
        simp only [List.mem_cons, List.not_mem_nil, or_false, not_or]
        exact ⟨Nat.ne_of_lt Ci, by rw [sz]; exact Nat.ne_of_lt (Nat.lt_succ_of_lt Ci)⟩
      · cases Lw with
        | error e => exact v8
        | ok IQ =>
          cases IQ with
          | ret r =>
            obtain ⟨rfl, h', tk, rfl, iX, qp⟩ := v8
            repeat (any_goals (first | assumption | wp_step))
            exact h _ _ iX qp
          | _ => exact v8.elim
    | _ => exact hr.elim
end
theorem yE : Manifest.owners.lookup (String.ofList ['r', 'o', 't', 'a', 'r', 'e', 't', 'i', '_', 't', 'e', 's'].reverse) = some Manifest.sig_set_iterator := by kernel_rfl
theorem bT : Slot "set_iterator" "__next__" "set_iterator.__next__" :=
  .of (owner := "set_iterator") (n := "__next__") (by rw [typeLookup_type, builtinLookup_eq_fast]; kernel_rfl) (by decide +kernel) (by decide +kernel) (by decide +kernel)
    (by first | exact .inl (by decide +kernel) | exact .inr (by decide +kernel)) (by rw [isSubtype_type]; kernel_rfl)
theorem ix : entryFor table "set_iterator.__next__" = some Builtin.«set_iterator.__next__» := entryFor_of_tree (by kernel_rfl)
theorem iy (a : Value) : argsOk "set_iterator.__next__" ⟨[a], []⟩ := by
  unfold argsOk; rw [signature?_of (id := "set_iterator.__next__") (n := ['_', '_', 't', 'x', 'e', 'n', '_', '_']) (o := ['r', 'o', 't', 'a', 'r', 'e', 't', 'i', '_', 't', 'e', 's']) (by kernel_rfl) yE]; kernel_rfl
theorem ox : Slot "set_iterator" "__iter__" "set_iterator.__iter__" :=
  .of (owner := "set_iterator") (n := "__iter__") (by rw [typeLookup_type, builtinLookup_eq_fast]; kernel_rfl) (by decide +kernel) (by decide +kernel) (by decide +kernel)
    (by first | exact .inl (by decide +kernel) | exact .inr (by decide +kernel)) (by rw [isSubtype_type]; kernel_rfl)
theorem wa : entryFor table "set_iterator.__iter__" = some Builtin.«dict_keyiterator.__iter__» :=
  entryFor_alias (id' := "dict_keyiterator.__iter__") (by kernel_rfl) (by first | rfl | decide +kernel | (unfold String.splitOn; simp +decide [String.splitOnAux])) (by decide +kernel) (by kernel_rfl)
theorem wc (a : Value) : argsOk "set_iterator.__iter__" ⟨[a], []⟩ := by
  unfold argsOk; rw [signature?_of (id := "set_iterator.__iter__") (n := ['_', '_', 'r', 'e', 't', 'i', '_', '_']) (o := ['r', 'o', 't', 'a', 'r', 'e', 't', 'i', '_', 't', 'e', 's']) (by kernel_rfl) yE]; kernel_rfl
theorem um : entryFor table "set.__iter__" = some Builtin.«frozenset.__iter__» :=
  entryFor_alias (id' := "frozenset.__iter__") (by kernel_rfl) (by first | rfl | decide +kernel | (unfold String.splitOn; simp +decide [String.splitOnAux])) (by decide +kernel) (by kernel_rfl)
noncomputable def dX (h : Heap) (I a : Addr) (first : Value) (i n ep : Nat) : Prop := ∃ o, h.get? I = some o ∧ o.cls = .type "set_iterator" ∧ o.data = .fields #[first, .int i 0, .ref a, .int n 0, .int ep 0]
theorem dX.typeIs {s : Shared} {I a : Addr} {first : Value} {i n ep : Nat} (x : dX s.heap I a first i n ep) : s.TypeIs (.ref I) "set_iterator" := let ⟨o, ho, hc, _⟩ := x; ⟨o, ho, hc⟩
theorem eW {α : Type} : ∀ {l : List α} {i : Nat} (h : i < l.length), (l[i] :: l.eraseIdx i).Perm l
  | [], i, h => by simp at h
  | x :: l, 0, h => .refl _
  | x :: l, i + 1, h => by
    rw [List.eraseIdx_cons_succ, List.getElem_cons_succ]
    exact (List.Perm.swap _ _ _).trans (.cons _ (eW (by simpa using h)))
section
variable {P : Program} {w : World} {A : Around} {E : Value → Shared → Prop} {s : Shared}
theorem wp_choose {src : Source} {n : Nat} {Q : Nat → Shared → Prop} (hn : n ≠ 0) (h : ∀ i d, i < n → Q i { s with drawn := d }) : wpAny (model P w) A (choose src n) Q E s := fun Γ p _ => by
  refine ⟨hn, ?_⟩
  exact h _ _ (Nat.mod_lt _ (Nat.pos_of_ne_zero hn))
theorem k8 {α : Type} : ∀ (n : Nat) (xs : List α) {s : Shared} {Q : List α → Shared → Prop}, n = xs.length → (∀ ys d, ys.Perm xs → Q ys { s with drawn := d }) → wpAny (model P w) A (drawOrder n xs) Q E s
  | 0, xs, s, Q, hn, h => by
    have : xs = [] := List.eq_nil_of_length_eq_zero hn.symm
    subst this
    exact wpAny_pure (h [] s.drawn .nil)
  | n + 1, [], s, Q, hn, h => by simp at hn
  | n + 1, x :: xs, s, Q, hn, h => by
    show wpAny _ _ (choose .order (x :: xs).length >>= _) _ _ s
    refine wpAny_bind (wp_choose (by simp) fun i d hi => ?_)
    have e : (x :: xs)[i]? = some (x :: xs)[i] := List.getElem?_eq_getElem hi
    rw [e]
    dsimp only
    refine wpAny_bind (k8 n _ (by rw [List.length_eraseIdx_of_lt hi]; simp at hn ⊢; omega) fun ys d' hp => wpAny_pure (h _ _ ?_))
    exact (List.Perm.cons _ hp).trans (eW hi)
end
section
variable {P : Program} {w : World} {A : Around} {E : Value → Shared → Prop} {s : Shared}
structure iY (P : Program) (w : World) (h : Heap) (a : Addr) (es : Array (Int × Value)) (ep : Nat) (t : SetTable) : Prop where
  at_ : ∃ o, h.get? a = some o ∧ o.ExactSet ∧ o.data = .set es ep t
  fits : t.fits es.size = true
  tab : bK w t
theorem uZ {α : Type} (next : Nat → Nat) : ∀ (fuel k : Nat) (left : List α) (out : Array α), fuel = left.length → (pickOrder.go next fuel k left out).toList.Perm (out.toList ++ left)
  | 0, k, left, out, h => by
    have : left = [] := List.eq_nil_of_length_eq_zero h.symm
    subst this
    simp [pickOrder.go]
  | fuel + 1, k, left, out, h => by
    unfold pickOrder.go
    have hl : next k % left.length < left.length := Nat.mod_lt _ (by omega)
    rw [List.getElem?_eq_getElem hl]
    dsimp only
    refine (uZ next fuel (k + 1) _ _ (by rw [List.length_eraseIdx_of_lt hl]; omega)).trans ?_
    rw [Array.toList_push, List.append_assoc]
    exact List.Perm.append_left _ (eW hl)
theorem qw {α : Type} (next : Nat → Nat) (xs : Array α) : (pickOrder next xs).toList.Perm xs.toList := by
  unfold pickOrder
  exact (uZ next xs.size 0 xs.toList #[] (by simp)).trans (by simp)
theorem k9 {Q : Bool → Shared → Prop} (h : Q (w.params.followText "set-order") s) : wpAny (model P w) A setsByText Q E s := by
  unfold setsByText
  exact wpAny_bind (wpAny_askSetting (wpAny_pure h))
theorem oy {a : Addr} {es : Array (Int × Value)} {ep : Nat} {t : SetTable} {slot given : Nat} {Q : Option (Value × Nat) → Shared → Prop} (hE : iY P w s.heap a es ep t)
    (hd : w.params.followText "set-order" = false → (!t.plain && decide (es.size > 1)) = false)
    (h1 : w.params.followText "set-order" = true → Q ((pickOrder (w.params.setOrder a ep) es)[given]?.map fun e => (e.2, slot)) s)
    (h2 : w.params.followText "set-order" = false → Q (match es[SetTable.below t.place slot]?, t.place[SetTable.below t.place slot]? with | some (_, x), some j => some (x, j + 1) | _, _ => none) s) :
    wpAny (model P w) A (setNext a slot given ep) Q E s := by
  obtain ⟨⟨o, ho, hex, mQ⟩, hf, ht⟩ := hE
  unfold setNext
  refine wpAny_bind (wpAny_setState_of ho mQ hf ?_)
  dsimp only
  refine wpAny_bind (k9 ?_)
  cases hb : w.params.followText "set-order" with
  | true =>
    simp only [if_true, bne_self_eq_false, Bool.false_eq_true, if_false]
    unfold setWalk
    refine wpAny_bind (wpAny_bind (wpAny_setState_of ho mQ hf ?_))
    dsimp only
    refine wpAny_bind (k9 ?_)
    rw [hb]
    simp only [if_true]
    refine wpAny_bind (wpAny_askSetting (wpAny_pure (wpAny_pure ?_)))
    exact h1 hb
  | false =>
    simp only [Bool.false_eq_true, if_false]
    have jr := hd hb
    have Ly : t.led = true := by rw [ht.led, hb]; rfl
    show wpAny _ _ (if (!t.plain && decide (es.size > 1)) = true then _ else _) _ _ s
    rw [jr]
    simp only [Bool.false_eq_true, if_false]
    refine wpAny_bind ?_
    show wpAny _ _ (if (!t.led && !es.isEmpty) = true then _ else _) _ _ s
    rw [Ly]
    simp only [Bool.not_true, Bool.false_and, Bool.false_eq_true, if_false]
    exact wpAny_pure (wpAny_pure (h2 hb))
end
section
variable {P : Program} {w : World} {A : Around} {E : Value → Shared → Prop} {s : Shared}
theorem dX.F6 {h : Heap} {I a : Addr} {first x : Value} {i n ep : Nat} (hit : dX h I a first i n ep) : dX (h.update I (Obj.mapFields (·.setIfInBounds 0 x))) I a x i n ep := by
  obtain ⟨o, ho, hc, hd⟩ := hit
  exact ⟨_, Heap.get?_update_self _ ho (Obj.isFreed_of_fields (Obj.data_mapFields hd _)), (Obj.cls_mapFields ..).trans hc, by rw [Obj.data_mapFields hd]; simp⟩
theorem dX.sF {h : Heap} {I a : Addr} {first : Value} {i n ep : Nat} (hit : dX h I a first i n ep) : dX (h.update I (Obj.mapFields (·.setIfInBounds 1 (rawInt ((i : Int) + 1))))) I a first (i + 1) n ep := by
  obtain ⟨o, ho, hc, hd⟩ := hit
  exact ⟨_, Heap.get?_update_self _ ho (Obj.isFreed_of_fields (Obj.data_mapFields hd _)), (Obj.cls_mapFields ..).trans hc, by rw [Obj.data_mapFields hd]; simp [rawInt]⟩
theorem jR {I a : Addr} {first x : Value} {i n ep k : Nat} {Q : Unit → Shared → Prop} (hk : k < 5) (hit : dX s.heap I a first i n ep) (h : Q () { s with heap := s.heap.update I (Obj.mapFields (·.setIfInBounds k x)) }) : wpAny (model P w) A (setField (.ref I) k x) Q E s := by
  obtain ⟨o, ho, hc, hd⟩ := hit
  exact wpAny_setField ho hd (by simpa using hk) h
theorem u0 {Q : Fin → Shared → Prop} (hh : A.handled = none) (h : ∀ e h', s.TypeIs e "StopIteration" ∨ True → (∀ b o, s.heap.get? b = some o → h'.get? b = some o) → Shared.TypeIs { s with heap := h' } e "StopIteration" → E e { s with heap := h' }) :
    wpAny (model P w) A (newExc (.type "StopIteration") [] >>= fun e => raiseNew e) Q E s := by
  refine wpAny_bind ?_
  simp only [newExc, newTuple]
  refine wpAny_bind (wpAny_newObj_type ?_ (by size_fits))
  refine wpAny_bind (m := firstArgMember _ _) (wpAny_of_eq (a := Value.none) (by first | rfl | (simp only [firstArgMember]; rfl)) ?_)
  refine wpAny_newObj_type ?_ (by size_fits)
  simp only [raiseNew]
  refine wpAny_bind (wpAny_handled ?_)
  rw [hh]
  refine wpAny_bind (wpAny_pure (wpAny_throw ?_))
  exact h _ _ (.inr trivial) (fun b o e => Heap.get?_push_of_some _ (Heap.get?_push_of_some _ e)) ⟨_, Heap.get?_push_size _ rfl, rfl⟩
theorem sG {Q : Option Value → Shared → Prop} {e : Value} (hT : s.TypeIs e "StopIteration") (h : Q none s) : wpAny (model P w) A (do let b ← isInstance e (.type "StopIteration"); if b = true then pure none else throw e) Q E s :=
  wpAny_bind (wpAny_isInstance (T := "StopIteration") (b := true) hT isSubtype_stop (wpAny_pure h))
theorem Dy {I a : Addr} {slot i ep next : Nat} {es : Array (Int × Value)} {t : SetTable} {x : Value} {Q : Option Value → Shared → Prop} (hit : dX s.heap I a (.int slot 0) i es.size ep) (hE : iY P w s.heap a es ep t)
    (hd : w.params.followText "set-order" = false → (!t.plain && decide (es.size > 1)) = false)
    (h1 : w.params.followText "set-order" = true → (pickOrder (w.params.setOrder a ep) es)[i]?.map (fun e => (e.2, slot)) = some (x, next))
    (h2 : w.params.followText "set-order" = false → (match es[SetTable.below t.place slot]?, t.place[SetTable.below t.place slot]? with | some (_, x), some j => some (x, j + 1) | _, _ => none) = some (x, next))
    (hQ : ∀ h', dX h' I a (.int next 0) (i + 1) es.size ep → Heap.SameBut I s.heap h' → Q (some x) { s with heap := h' }) : wpAny (model P w) A (pyNext (.ref I)) Q E s := by
  obtain ⟨o, ho, hc, jr⟩ := id hit
  obtain ⟨oa, qy, A8, qz⟩ := hE.at_
  unfold pyNext
  refine wpAny_bind (wpAny_attempt (wpAny_callSpecial?_slot (name := Str.ofString "__next__") hit.typeIs bT (wpAny_call_entry bT hit.typeIs ix ?_ (iy _))))
  unfold Builtin.«set_iterator.__next__»
  refine wpAny_bind (m := slotArgs "__next__" 0 _) (wpAny_pure ?_)
  dsimp only
  refine wpAny_bind (wpAny_fieldsOf ho jr ?_)
  dsimp only
  refine wpAny_bind (wpAny_setEntries_of qy qz hE.fits ?_)
  simp only [bne_self_eq_false, Bool.false_eq_true, if_false, Int.toNat_natCast]
  have fin : ∀ r, r = some (x, next) → wpAny (model P w) A.in1 (match r with
        | some (x, next) => do
          setField (Value.ref I) 0 (rawInt next)
          setField (Value.ref I) 1 (rawInt (↑i + 1))
          ret x
        | none => do
          setField (Value.ref I) 2 Value.none
          let __do_lift ← newExc (Value.type "StopIteration") []
          raiseNew __do_lift) (fun fin s' => ∃ v, fin = Fin.done (Flow.ret v) ∧ wpAny (model P w) A (pure (some v)) Q E s') (fun e s' => wpAny (model P w) A (do
          let __do_lift ← isInstance e (Value.type "StopIteration")
          if __do_lift = true then pure none else throw e) Q E s') s := fun r hr => by
    subst hr
    dsimp only
    refine wpAny_bind (jR (by decide) hit ?_)
    have F7 := hit.F6 (x := rawInt next)
    refine wpAny_bind (jR (by decide) F7 ?_)
    exact wpAny_pure ⟨x, rfl, wpAny_pure (hQ _ F7.sF ((Heap.SameBut.update ..).trans (Heap.SameBut.update ..)))⟩
  exact wpAny_bind (oy hE hd (fun hb => fin _ (h1 hb)) (fun hb => fin _ (h2 hb)))
theorem Dz {I a : Addr} {slot i ep : Nat} {es : Array (Int × Value)} {t : SetTable} {Q : Option Value → Shared → Prop} (hh : A.handled = none) (hit : dX s.heap I a (.int slot 0) i es.size ep) (hE : iY P w s.heap a es ep t)
    (hd : w.params.followText "set-order" = false → (!t.plain && decide (es.size > 1)) = false)
    (h1 : w.params.followText "set-order" = true → (pickOrder (w.params.setOrder a ep) es)[i]?.map (fun e => (e.2, slot)) = none)
    (h2 : w.params.followText "set-order" = false → (match es[SetTable.below t.place slot]?, t.place[SetTable.below t.place slot]? with | some (_, x), some j => some (x, j + 1) | _, _ => none) = none)
    (hQ : ∀ h', (∀ b o, b ≠ I → s.heap.get? b = some o → h'.get? b = some o) → Q none { s with heap := h' }) : wpAny (model P w) A (pyNext (.ref I)) Q E s := by
  obtain ⟨o, ho, hc, jr⟩ := id hit
  obtain ⟨oa, qy, A8, qz⟩ := hE.at_
  unfold pyNext
  refine wpAny_bind (wpAny_attempt (wpAny_callSpecial?_slot (name := Str.ofString "__next__") hit.typeIs bT (wpAny_call_entry bT hit.typeIs ix ?_ (iy _))))
  unfold Builtin.«set_iterator.__next__»
  refine wpAny_bind (m := slotArgs "__next__" 0 _) (wpAny_pure ?_)
  dsimp only
  refine wpAny_bind (wpAny_fieldsOf ho jr ?_)
  dsimp only
  refine wpAny_bind (wpAny_setEntries_of qy qz hE.fits ?_)
  simp only [bne_self_eq_false, Bool.false_eq_true, if_false, Int.toNat_natCast]
  have fin : ∀ r : Option (Value × Nat), r = none → wpAny (model P w) A.in1 (match r with
        | some (x, next) => do
          setField (Value.ref I) 0 (rawInt next)
          setField (Value.ref I) 1 (rawInt (↑i + 1))
          ret x
        | none => do
          setField (Value.ref I) 2 Value.none
          let __do_lift ← newExc (Value.type "StopIteration") []
          raiseNew __do_lift) (fun fin s' => ∃ v, fin = Fin.done (Flow.ret v) ∧ wpAny (model P w) A (pure (some v)) Q E s') (fun e s' => wpAny (model P w) A (do
          let __do_lift ← isInstance e (Value.type "StopIteration")
          if __do_lift = true then pure none else throw e) Q E s') s := fun r hr => by
    subst hr
    dsimp only
    refine wpAny_bind (jR (by decide) hit ?_)
    exact u0 hh fun e h' _ k hT => sG hT (hQ h' fun b o hb q => k b o ((Heap.get?_update_other _ _ (Ne.symm hb)).trans q))
  exact wpAny_bind (oy hE hd (fun hb => fin _ (h1 hb)) (fun hb => fin _ (h2 hb)))
theorem DA {I a T : Addr} {i ep j : Nat} {es : Array (Int × Value)} {t : SetTable} {ps : List Nat} {x : Int × Value} {Q : Option Value → Shared → Prop} (hit : dX s.heap I a (.ref T) i es.size ep) (hE : iY P w s.heap a es ep t)
    (hT : s.heap.IsTuple T (ps.map fun (i : Nat) => rawInt i).toArray) (hj : ps[i]? = some j) (hx : es[j]? = some x)
    (hQ : ∀ h', dX h' I a (.ref T) (i + 1) es.size ep → Heap.SameBut I s.heap h' → Q (some x.2) { s with heap := h' }) : wpAny (model P w) A (pyNext (.ref I)) Q E s := by
  obtain ⟨o, ho, hc, jr⟩ := id hit
  obtain ⟨oa, qy, A8, qz⟩ := hE.at_
  unfold pyNext
  refine wpAny_bind (wpAny_attempt (wpAny_callSpecial?_slot (name := Str.ofString "__next__") hit.typeIs bT (wpAny_call_entry bT hit.typeIs ix ?_ (iy _))))
  unfold Builtin.«set_iterator.__next__»
  refine wpAny_bind (m := slotArgs "__next__" 0 _) (wpAny_pure ?_)
  dsimp only
  refine wpAny_bind (wpAny_fieldsOf ho jr ?_)
  dsimp only
  refine wpAny_bind (wpAny_setEntries_of qy qz hE.fits ?_)
  simp only [bne_self_eq_false, Bool.false_eq_true, if_false, Int.toNat_natCast]
  obtain ⟨ot, F8, _, nt, mQ⟩ := hT
  refine wpAny_bind (wpAny_seqItems F8 mQ ?_)
  have e : (ps.map fun (i : Nat) => rawInt i).toArray[i]? = some (rawInt j) := by simp [hj]
  dsimp only
  rw [e]
  show wpAny _ _ (setNextDrawn a (Int.toNat (j : Int)) ep >>= _) _ _ s
  rw [Int.toNat_natCast]
  refine wpAny_bind ?_
  unfold setNextDrawn
  refine wpAny_bind (wpAny_setState_of qy qz hE.fits ?_)
  simp only [bne_self_eq_false, Bool.false_eq_true, if_false, hx]
  refine wpAny_pure ?_
  refine wpAny_bind (jR (by decide) hit ?_)
  exact wpAny_pure ⟨x.2, rfl, wpAny_pure (hQ _ hit.sF (Heap.SameBut.update ..))⟩
theorem DB {I a T : Addr} {i ep : Nat} {es : Array (Int × Value)} {t : SetTable} {ps : List Nat} {Q : Option Value → Shared → Prop} (hh : A.handled = none) (hit : dX s.heap I a (.ref T) i es.size ep) (hE : iY P w s.heap a es ep t)
    (hT : s.heap.IsTuple T (ps.map fun (i : Nat) => rawInt i).toArray) (hj : ps.length ≤ i)
    (hQ : ∀ h', (∀ b o, b ≠ I → s.heap.get? b = some o → h'.get? b = some o) → Q none { s with heap := h' }) : wpAny (model P w) A (pyNext (.ref I)) Q E s := by
  obtain ⟨o, ho, hc, jr⟩ := id hit
  obtain ⟨oa, qy, A8, qz⟩ := hE.at_
  unfold pyNext
  refine wpAny_bind (wpAny_attempt (wpAny_callSpecial?_slot (name := Str.ofString "__next__") hit.typeIs bT (wpAny_call_entry bT hit.typeIs ix ?_ (iy _))))
  unfold Builtin.«set_iterator.__next__»
  refine wpAny_bind (m := slotArgs "__next__" 0 _) (wpAny_pure ?_)
  dsimp only
  refine wpAny_bind (wpAny_fieldsOf ho jr ?_)
  dsimp only
  refine wpAny_bind (wpAny_setEntries_of qy qz hE.fits ?_)
  simp only [bne_self_eq_false, Bool.false_eq_true, if_false, Int.toNat_natCast]
  obtain ⟨ot, F8, _, nt, mQ⟩ := hT
  refine wpAny_bind (wpAny_seqItems F8 mQ ?_)
  have e : (ps.map fun (i : Nat) => rawInt i).toArray[i]? = none := by simp [hj]
  dsimp only
  rw [e]
  dsimp only
  refine wpAny_bind (jR (by decide) hit ?_)
  refine wpAny_bind (jR (by decide) (hit.F6 (x := rawInt 0)) ?_)
  exact u0 hh fun e h' _ k hT => sG hT (hQ h' fun b o hb q => k b o ((Heap.get?_update_other _ _ (Ne.symm hb)).trans ((Heap.get?_update_other _ _ (Ne.symm hb)).trans q)))
end
theorem dX.bO {h h' : Heap} {I a : Addr} {first : Value} {i n ep : Nat} (x : dX h I a first i n ep) (k : ∀ o, h.get? I = some o → h'.get? I = some o) : dX h' I a first i n ep := let ⟨o, ho, r⟩ := x; ⟨o, k o ho, r⟩
theorem iY.bO {P : Program} {w : World} {h h' : Heap} {a : Addr} {es : Array (Int × Value)} {ep : Nat} {t : SetTable} (x : iY P w h a es ep t) (k : ∀ o, h.get? a = some o → h'.get? a = some o) : iY P w h' a es ep t :=
  ⟨let ⟨o, ho, r⟩ := x.at_; ⟨o, k o ho, r⟩, x.fits, x.tab⟩
theorem we {xs : Array Nat} (h : jP xs) {i : Nat} (hi : i < xs.size) : SetTable.below xs (xs[i] + 1) = i + 1 := by
  obtain ⟨b0, b1, b2⟩ := ng (xs[i] + 1) h
  generalize SetTable.below xs (xs[i] + 1) = p at *
  have h1 : i < p := by
    refine Nat.lt_of_not_le fun hp => ?_
    have := b2 i hi hp
    omega
  refine Nat.le_antisymm (Nat.le_of_not_lt fun hp => ?_) h1
  have Kb : i + 1 < xs.size := by omega
  have q := b1 (i + 1) Kb hp
  have q2 := oo h (show i < i + 1 by omega) Kb
  omega
theorem wg {xs : Array Nat} (h : jP xs) : SetTable.below xs 0 = 0 := by
  obtain ⟨b0, b1, b2⟩ := ng 0 h
  generalize SetTable.below xs 0 = p at *
  by_cases hp : p = 0
  · exact hp
  · have := b1 0 (by omega) (by omega)
    omega
section
variable {P : Program} {w : World} {A : Around} {E : Value → Shared → Prop} {s : Shared}
theorem si_self {I a : Addr} {first : Value} {i n ep : Nat} {Q : Value → Shared → Prop} (hit : dX s.heap I a first i n ep) (h : Q (.ref I) s) : wpAny (model P w) A (pyIter (.ref I)) Q E s := by
  refine wpAny_pyIter_slot hit.typeIs ox (wpAny_call_entry ox hit.typeIs wa ?_ (wc _))
  show wpAny _ _ (ret (.ref I)) _ _ s
  exact wpAny_pure ⟨_, rfl, "set_iterator", _, hit.typeIs, bT.lookup, h⟩
theorem sH {es : List (Int × Value)} (h : ElemsOf (intKind P w) es) {e : Int × Value} (he : e ∈ es) : ∃ t, e.2 = .int (dh e) t := by
  obtain ⟨⟨k', qp, _⟩, _⟩ := h e he
  obtain ⟨t, e2⟩ := Value.isInt_shape (k := k') (v := e.2) qp
  exact ⟨t, by unfold dh; rw [e2]⟩
noncomputable abbrev yF (xs : List Int) : Nat → Value → Prop := fun i v => ∃ m t, xs[i]? = some m ∧ v = .int m t
noncomputable def eX (w : World) (a : Addr) (ep : Nat) (es : Array (Int × Value)) : List (Int × Value) := if w.params.followText "set-order" = true then (pickOrder (w.params.setOrder a ep) es).toList else es.toList
theorem iz (w : World) (a : Addr) (ep : Nat) (es : Array (Int × Value)) : (eX w a ep es).Perm es.toList := by
  unfold eX
  split
  · exact qw _ _
  · exact .refl _
theorem A9 {I a : Addr} {es : Array (Int × Value)} {ep : Nat} {t : SetTable} (hh : A.handled = none) (eE : a ≠ I) (jv : ElemsOf (intKind P w) es.toList) (hd : w.params.followText "set-order" = false → (!t.plain && decide (es.size > 1)) = false) :
    WalksS P w A I [I, a] [I] (fun a b => b = a) ((eX w a ep es).map dh).length (yF ((eX w a ep es).map dh))
      (fun i s => iY P w s.heap a es ep t ∧ ∃ slot : Nat, dX s.heap I a (.int slot 0) i es.size ep ∧ (w.params.followText "set-order" = false → SetTable.below t.place slot = i)) where
  sub := fun b hb => by simp at hb; simp [hb]
  grefl := fun _ => rfl
  gtrans := fun _ _ _ h1 h2 => h2.trans h1
  frame := fun i s h' _ st _ hk => ⟨st.1.bO fun o e => hk a (by simp) o e, let ⟨slot, h1, h2⟩ := st.2; ⟨slot, h1.bO fun o e => hk I (by simp) o e, h2⟩⟩
  item := fun i s Q E hi st hQ => by
    obtain ⟨hE, slot, hit, hb⟩ := st
    have hl : i < (eX w a ep es).length := by simpa using hi
    have F5 : i < es.size := by rw [← Array.length_toList, ← (iz w a ep es).length_eq]; exact hl
    obtain ⟨tk, he⟩ := sH (P := P) (w := w) jv ((iz w a ep es).mem_iff.mp (List.getElem_mem hl))
    have bQ : i < t.place.size := by
      have := hE.fits
      simp only [SetTable.fits, Bool.and_eq_true, beq_iff_eq] at this
      rw [this.1]; exact F5
    refine Dy (next := if w.params.followText "set-order" = true then slot else t.place[i] + 1) (x := ((eX w a ep es)[i]).2) hit hE hd (fun gD => ?_) (fun gD => ?_) (fun h' Ba hs => hQ _ _ ⟨_, tk, by rw [List.getElem?_map, List.getElem?_eq_getElem hl]; rfl, he⟩ ⟨hE.bO fun o e => by rw [hs.2 a eE]; exact e, _, Ba, fun gD => ?_⟩ ⟨fun b o hb e => by rw [hs.2 b (fun z => hb (by simp [z]))]; exact e, rfl, rfl, rfl, Nat.le_refl _⟩)
    · rw [if_pos gD]
      have e1 : eX w a ep es = (pickOrder (w.params.setOrder a ep) es).toList := by unfold eX; rw [if_pos gD]
      have e2 : (pickOrder (w.params.setOrder a ep) es)[i]? = some (eX w a ep es)[i] := by
        rw [← Array.getElem?_toList, ← e1]
        exact List.getElem?_eq_getElem hl
      rw [e2]
      rfl
    · rw [if_neg (by rw [gD]; decide), hb gD, Array.getElem?_eq_getElem F5, Array.getElem?_eq_getElem bQ]
      have e1 : eX w a ep es = es.toList := by unfold eX; rw [if_neg (by rw [gD]; decide)]
      have e2 : (eX w a ep es)[i] = es[i] := by simp [e1]
      rw [e2]
    · rw [if_neg (by rw [gD]; decide)]
      exact we hE.tab.ris bQ
  done := fun s Q E st hQ => by
    obtain ⟨hE, slot, hit, hb⟩ := st
    have hl : ((eX w a ep es).map dh).length = es.size := by rw [List.length_map, (iz w a ep es).length_eq, Array.length_toList]
    rw [hl] at hit hb
    refine Dz hh hit hE hd (fun gD => ?_) (fun gD => ?_) (fun h' k => hQ _ ⟨fun b o hb e => k b o (fun z => hb (by simp [z])) e, rfl, rfl, rfl, Nat.le_refl _⟩)
    · have e1 : (pickOrder (w.params.setOrder a ep) es)[es.size]? = none := by
        refine Array.getElem?_eq_none ?_
        rw [← Array.length_toList, (qw _ es).length_eq, Array.length_toList]
        exact Nat.le_refl _
      rw [e1]
      rfl
    · rw [hb gD, Array.getElem?_eq_none (Nat.le_refl _)]
  self := fun i s Q E st hQ => let ⟨_, slot, hit, _⟩ := st; si_self hit hQ
theorem wj {I a T : Addr} {es : Array (Int × Value)} {ep : Nat} {t : SetTable} {ps : List Nat} (hh : A.handled = none) (eE : a ≠ I) (Lz : T ≠ I) (jv : ElemsOf (intKind P w) es.toList) (yG : ∀ j ∈ ps, j < es.size) (bQ : ps.length = es.size) :
    WalksS P w A I [I, a, T] [I] (fun a b => b = a) (ps.map fun j => dh (es.getD j (0, .none))).length (yF (ps.map fun j => dh (es.getD j (0, .none))))
      (fun i s => iY P w s.heap a es ep t ∧ s.heap.IsTuple T (ps.map fun (i : Nat) => rawInt i).toArray ∧ dX s.heap I a (.ref T) i es.size ep) where
  sub := fun b hb => by simp at hb; simp [hb]
  grefl := fun _ => rfl
  gtrans := fun _ _ _ h1 h2 => h2.trans h1
  frame := fun i s h' _ st _ hk => ⟨st.1.bO fun o e => hk a (by simp) o e, st.2.1.at fun o e => hk T (by simp) o e, st.2.2.bO fun o e => hk I (by simp) o e⟩
  item := fun i s Q E hi st hQ => by
    obtain ⟨hE, hT, hit⟩ := st
    have hl : i < ps.length := by simpa using hi
    have hj := yG _ (List.getElem_mem hl)
    have hx : es[ps[i]]? = some es[ps[i]] := Array.getElem?_eq_getElem hj
    have hg : es.getD ps[i] (0, .none) = es[ps[i]] := by simp [Array.getD, hj]
    obtain ⟨tk, he⟩ := sH (P := P) (w := w) jv (show es[ps[i]] ∈ es.toList by simp)
    refine DA hit hE hT (List.getElem?_eq_getElem hl) hx fun h' Ba hs => hQ _ _ ⟨_, tk, by rw [List.getElem?_map, List.getElem?_eq_getElem hl]; rfl, by dsimp only; rw [hg]; exact he⟩ ⟨hE.bO fun o e => by rw [hs.2 a eE]; exact e, hT.at fun o e => by rw [hs.2 T Lz]; exact e, Ba⟩ ⟨fun b o hb e => by rw [hs.2 b (fun z => hb (by simp [z]))]; exact e, rfl, rfl, rfl, Nat.le_refl _⟩
  done := fun s Q E st hQ => by
    obtain ⟨hE, hT, hit⟩ := st
    have hl : (ps.map fun j => dh (es.getD j (0, .none))).length = ps.length := List.length_map _
    rw [hl] at hit
    exact DB hh hit hE hT (Nat.le_refl _) fun h' k => hQ _ ⟨fun b o hb e => k b o (fun z => hb (by simp [z])) e, rfl, rfl, rfl, Nat.le_refl _⟩
  self := fun i s Q E st hQ => si_self st.2.2 hQ
theorem wk {a : Addr} {ns : List Int} {Q : Value → Shared → Prop} (hS : bF P w s.heap a ns)
    (hQ : ∀ (I : Addr) (h' : Heap) (d' : Drawn) (xs : List Int) (fp : List Addr) (St : Nat → Shared → Prop), xs.Perm ns → (∀ b o, s.heap.get? b = some o → h'.get? b = some o) → s.heap.objs.size ≤ I → (∀ b ∈ fp, b = a ∨ s.heap.objs.size ≤ b) →
      (∀ A' : Around, A'.handled = none → WalksS P w A' I fp [I] (fun a b => b = a) xs.length (yF xs) St) → St 0 { s with heap := h', drawn := d' } → Q (.ref I) { s with heap := h', drawn := d' }) : wpAny (model P w) A (pyIter (.ref a)) Q E s := by
  have Kc := hS.typeIs (h := s.heap)
  obtain ⟨o, es, ep, t, ho, hex, hd, jv, hp, hn, hb, hf, ht⟩ := hS
  have hE : iY P w s.heap a es ep t := ⟨⟨o, ho, hex, hd⟩, hf, ht⟩
  have aT := Heap.lt_size ho
  refine wpAny_pyIter_slot Kc F.slot_set_iter (wpAny_call_entry F.slot_set_iter Kc um ?_ (F.args_set_iter_1 _))
  unfold Builtin.«frozenset.__iter__»
  refine wpAny_bind (m := Builtin.Frozenset.slot0 "__iter__" _) (wpAny_pure ?_)
  unfold Builtin.Frozenset.sizeOf
  refine wpAny_bind (wpAny_bind (wpAny_setEntries_of ho hd hf (wpAny_pure ?_)))
  refine wpAny_bind ?_
  unfold setDrawn
  refine wpAny_bind (wpAny_setState_of ho hd hf ?_)
  dsimp only
  refine wpAny_bind (k9 ?_)
  refine wpAny_pure ?_
  by_cases qA : (!w.params.followText "set-order" && (!t.plain && decide (es.size > 1))) = true
  · show wpAny _ _ (if (!w.params.followText "set-order" && (!t.plain && decide (es.size > 1))) = true then _ else _) _ _ s
    rw [if_pos qA]
    refine wpAny_bind (k8 _ _ (by simp) fun ps d yG => ?_)
    have bQ : ps.length = es.size := by rw [yG.length_eq, List.length_range]
    refine wpAny_bind (wpAny_newTuple ?_ (by rw [List.length_map, bQ]; exact fits_of_scanBound hb))
    refine wpAny_bind (wpAny_setEpoch_of (o := o) (Heap.get?_push_of_some _ ho) hd hf ?_)
    unfold newFields
    refine wpAny_bind (wpAny_newObj_type ?_ (by size_fits))
    have hsz : ∀ u : Obj, (s.heap.push u).objs.size = s.heap.objs.size + 1 := fun u => Heap.size_push _ _
    have hit : dX ((s.heap.push { cls := .type "tuple", data := .seq (ps.map fun (i : Nat) => rawInt i).toArray }).push { cls := .type "set_iterator", data := .fields #[.ref s.heap.objs.size, .int (0 : Nat) 0, .ref a, .int es.size 0, .int ep 0] }) (s.heap.push { cls := .type "tuple", data := .seq (ps.map fun (i : Nat) => rawInt i).toArray }).objs.size a (.ref s.heap.objs.size) 0 es.size ep := ⟨_, Heap.get?_push_size _ rfl, rfl, rfl⟩
    have MQ : (ps.map fun j => dh (es.getD j (0, .none))).Perm ns := by
      refine ((yG.map _).trans ?_).trans hp
      have : (List.range es.size).map (fun j => dh (es.getD j (0, .none))) = es.toList.map dh := by
        refine List.ext_getElem (by simp) fun n h1 h2 => ?_
        have xM : n < es.size := by simpa using h1
        simp [Array.getD, xM]
      rw [this]
    refine wpAny_pure ⟨_, rfl, "set_iterator", _, dX.typeIs (s := { s with heap := _, drawn := d }) hit, bT.lookup, ?_⟩
    refine hQ _ _ d _ [(s.heap.push { cls := .type "tuple", data := .seq (ps.map fun (i : Nat) => rawInt i).toArray }).objs.size, a, s.heap.objs.size] _ MQ (fun b o e => Heap.get?_push_of_some _ (Heap.get?_push_of_some _ e)) (by rw [hsz]; exact Nat.le_succ _) (fun b hb => ?_) (fun A' hA => wj (t := t) (ep := ep) hA ?_ ?_ jv (fun j hj => by simpa using yG.mem_iff.mp hj) bQ) ⟨hE.bO fun o e => Heap.get?_push_of_some _ (Heap.get?_push_of_some _ e), ⟨_, Heap.get?_push_of_some _ (Heap.get?_push_size _ rfl), rfl, _, rfl⟩, hit⟩
    · simp only [List.mem_cons, List.not_mem_nil, or_false] at hb
      rcases hb with rfl | rfl | rfl
      · exact .inr (by rw [hsz]; exact Nat.le_succ _)
      · exact .inl rfl
      · exact .inr (Nat.le_refl _)
    · rw [hsz]; exact Nat.ne_of_lt (Nat.lt_succ_of_lt aT)
    · rw [hsz]; exact Nat.ne_of_lt (Nat.lt_succ_self _)
  · show wpAny _ _ (if (!w.params.followText "set-order" && (!t.plain && decide (es.size > 1))) = true then _ else _) _ _ s
    rw [if_neg qA]
    refine wpAny_bind (wpAny_pure (wpAny_bind (wpAny_setEpoch_of ho hd hf ?_)))
    unfold newFields
    refine wpAny_bind (wpAny_newObj_type ?_ (by size_fits))
    have hit : dX (s.heap.push { cls := .type "set_iterator", data := .fields #[.int (0 : Nat) 0, .int (0 : Nat) 0, .ref a, .int es.size 0, .int ep 0] }) s.heap.objs.size a (.int (0 : Nat) 0) 0 es.size ep := ⟨_, Heap.get?_push_size _ rfl, rfl, rfl⟩
    refine wpAny_pure ⟨_, rfl, "set_iterator", _, dX.typeIs (s := { s with heap := _ }) hit, bT.lookup, ?_⟩
    refine hQ _ _ s.drawn _ [s.heap.objs.size, a] _ (((iz w a ep es).map dh).trans hp) (fun b o e => Heap.get?_push_of_some _ e) (Nat.le_refl _) (fun b hb => ?_) (fun A' hA => A9 (t := t) (ep := ep) hA (Nat.ne_of_lt aT) jv fun hb => ?_) ⟨hE.bO fun o e => Heap.get?_push_of_some _ e, 0, hit, fun _ => wg ht.ris⟩
    · simp only [List.mem_cons, List.not_mem_nil, or_false] at hb
      rcases hb with rfl | rfl
      · exact .inr (Nat.le_refl _)
      · exact .inl rfl
    · rw [hb] at qA
      simpa using qA
end
section
variable {P : Program} {w : World} {A : Around} {E : Value → Shared → Prop} {s : Shared}
theorem uo {a : Addr} {Q : Bool → Shared → Prop} (hT : s.TypeIs (.ref a) "set") (h : Q false s) : wpAny (model P w) A (Builtin.List.listLengthHint (.ref a)) Q E s := by
  unfold Builtin.List.listLengthHint
  refine wpAny_bind (wpAny_specialOf hT F.slot_set_len.lookup ?_)
  have e : splitId "set.__len__" = some ("set", "__len__") := by kernel_rfl
  dsimp only
  rw [e]
  dsimp only
  refine wpAny_bind (wpAny_isInstance hT sub_set_self ?_)
  simp only [Bool.not_true, Bool.false_eq_true, if_false]
  show wpAny _ _ (if _ = true then _ else _) _ _ s
  rw [if_pos (by kernel_rfl)]
  exact wpAny_bind (wpAny_typeOf hT (wpAny_pure h))
theorem ints_of {xs : List Int} {acc : Array Value} (h : ItemsOf (yF xs) acc xs.length) : IntsAre acc.toList xs := by
  obtain ⟨hs, hi⟩ := h
  have : ∀ (vs : List Value) (xs : List Int), vs.length = xs.length → (∀ (j : Nat) (v : Value), vs[j]? = some v → yF xs j v) → IntsAre vs xs := by
    intro vs
    induction vs with
    | nil => intro xs hl _; cases xs with | nil => exact .nil | cons x xs => simp at hl
    | cons v vs ih =>
      intro xs hl hg
      cases xs with
      | nil => simp at hl
      | cons x xs =>
        obtain ⟨m, t, e1, rfl⟩ := hg 0 v rfl
        have e2 : x = m := by simpa using e1
        subst e2
        refine .cons _ _ (ih xs (by simpa using hl) fun j u hu => ?_)
        obtain ⟨m', t', e3, e4⟩ := hg (j + 1) u (by simpa using hu)
        exact ⟨m', t', by simpa using e3, e4⟩
  exact this acc.toList xs (by simpa using hs) fun j v hv => hi j v (by rw [← Array.getElem?_toList]; exact hv)
theorem uq {a : Addr} {ns : List Int} {QL : List Value → Shared → Prop} (hh : A.handled = none) (hS : bF P w s.heap a ns) (hz : ns.length ≤ sizeLine)
    (hQ : ∀ us xs h' d' tk, IntsAre us xs → xs.Perm ns → (∀ b o, s.heap.get? b = some o → h'.get? b = some o) → QL us { s with heap := h', drawn := d', toks := tk }) : wpAny (model P w) A (collect (.ref a)) QL E s := by
  have aT : a < s.heap.objs.size := let ⟨_, _, _, _, ho, _⟩ := hS; Heap.lt_size ho
  have Kd : s.heap.objs.size ≠ a := Nat.ne_of_gt aT
  unfold collect
  refine wpAny_bind (wpAny_runValue (codeAny_builtin F.entry_proto_collect ?_))
  rw [Around.under_plainId F.plain_proto_collect _]
  show wpAny _ A.in1 (newList [] >>= fun l => again (.builtin "list.__iadd__" ⟨[l, .ref a], []⟩)) _ _ s
  refine wpAny_bind (wpAny_newObj_type ?_)
  refine wpAny_pure ⟨plainId_quiet F.plain_list_iadd _, codeAny_builtin F.entry_list_iadd ?_⟩
  rw [Around.under_plainId F.plain_list_iadd _]
  have yB : bF P w (s.heap.push { cls := .type "list", data := .seq ([] : List Value).toArray }) a ns := hS.bO fun o e => Heap.get?_push_of_some _ e
  have T1 : Shared.TypeIs { s with heap := s.heap.push { cls := .type "list", data := .seq ([] : List Value).toArray } } (.ref a) "set" := bF.typeIs (P := P) (w := w) (h := s.heap) (s := { s with heap := _ }) yB
  show wpAny _ A.in1 (Builtin.List.listExtendWith (.ref s.heap.objs.size) (.ref a) (.ref s.heap.objs.size)) _ _ _
  unfold Builtin.List.listExtendWith
  refine wpAny_bind (wpAny_typeOf T1 ?_)
  have h1 : Builtin.List.listSameRef (.ref s.heap.objs.size) (.ref a) = false := by simp [Builtin.List.listSameRef, Kd]
  have h2 : (Value.type "set" == Value.type "list") = false := by decide
  have h3 : (Value.type "set" == Value.type "tuple") = false := by decide
  simp only [h1, h2, h3, Bool.or_false, Bool.false_eq_true, if_false]
  refine wpAny_bind (wk (s := { s with heap := s.heap.push { cls := .type "list", data := .seq ([] : List Value).toArray } }) yB ?_)
  intro I h' d' xs fp St hp hk hI MR hW mJ
  have T2 : Shared.TypeIs { s with heap := h', drawn := d' } (.ref a) "set" := bF.typeIs (P := P) (w := w) (h := s.heap) (s := { s with heap := _, drawn := d' }) (yB.bO fun o e => hk a o e)
  refine wpAny_bind (wpAny_holding (uo T2 ?_))
  show wpAny _ A.in1 (if _ = true then _ else _) _ _ _
  rw [if_pos (by kernel_rfl)]
  show wpAny _ A.in1 (rule "list.extend.makes-room" >>= fun _ => Builtin.List.listTouch (.ref s.heap.objs.size) >>= fun _ =>
    again (.builtin "list.extend.loop" ⟨[.ref s.heap.objs.size, .ref I, .ref s.heap.objs.size], []⟩)) _ _ _
  refine wpAny_bind (wpAny_rule ?_)
  have Cj : h'.get? s.heap.objs.size = some { cls := .type "list", data := .seq ([] : List Value).toArray } := hk _ _ (Heap.get?_push_size _ rfl)
  refine wpAny_bind ?_
  show wpAny _ A.in1 (updateSeq s.heap.objs.size (·.push .none) >>= fun _ => updateSeq s.heap.objs.size (·.pop)) _ _ _
  refine wpAny_bind (wpAny_updateSeq Cj rfl ?_)
  have Ck := Heap.get?_update_self (Obj.mapSeq (·.push Value.none)) Cj rfl
  refine wpAny_updateSeq Ck rfl ?_
  have IU := Heap.get?_update_self (Obj.mapSeq (·.pop)) Ck rfl
  have Ke : ∀ b o, b ≠ s.heap.objs.size → h'.get? b = some o → ((h'.update s.heap.objs.size (Obj.mapSeq (·.push Value.none))).update s.heap.objs.size (Obj.mapSeq (·.pop))).get? b = some o :=
    fun b o hb e => (Heap.get?_update_other _ _ (Ne.symm hb)).trans ((Heap.get?_update_other _ _ (Ne.symm hb)).trans e)
  have F9 : (s.heap.push { cls := .type "list", data := .seq ([] : List Value).toArray }).objs.size = s.heap.objs.size + 1 := Heap.size_push _ _
  have sC : s.heap.objs.size ∉ fp := fun hm => by
    rcases MR _ hm with z | z
    · exact Kd z
    · have z' : s.heap.objs.size + 1 ≤ s.heap.objs.size := by rw [← F9]; exact z
      exact absurd z' (Nat.not_succ_le_self _)
  have W := hW A.in1.in1 (by simp [hh])
  have hl : xs.length ≤ sizeLine := by rw [hp.length_eq]; exact hz
  refine wpAny_pure ⟨plainId_quiet F.plain_extend_loop _, codeAny_extend_loopS (W.of_in1) hl _ sC _ xs.length 0 _ _ _ rfl (Nat.zero_le _) (W.frame 0 ({ s with heap := h', drawn := d' } : Shared) _ s.toks mJ (Nat.le_refl _) fun b hb o e => Ke b o (fun h => sC (h ▸ hb)) e) IU (ItemsOf.nil _) fun s' hZ c' hm iX Ga => ?_⟩
  show wpAny _ A (load s.heap.objs.size >>= _) _ _ s'
  refine wpAny_bind (wpAny_load iX ?_)
  refine wpAny_pure ?_
  obtain ⟨h2, g2, d2, MS, os2⟩ := s'
  have eg : g2 = s.gens := hm.gens
  have ed : d2 = d' := hm.drawn
  have eo : os2 = s.os := hm.os
  subst eg; subst ed; subst eo
  refine hQ _ xs h2 _ MS (ints_of Ga) hp fun b o e => hm.heap b o ?_ (Ke b o (Nat.ne_of_lt (Heap.lt_size e)) (hk b o (Heap.get?_push_of_some _ e)))
  have hb : b < s.heap.objs.size := Heap.lt_size e
  simp only [List.mem_cons, List.not_mem_nil, or_false, not_or]
  refine ⟨Nat.ne_of_lt hb, fun z => ?_⟩
  have z' : s.heap.objs.size + 1 ≤ b := by rw [← F9, z]; exact hI
  exact absurd (Nat.lt_of_lt_of_le (Nat.lt_succ_of_lt hb) z') (Nat.lt_irrefl _)
end
noncomputable def sortI (ns : List Int) : List Int := ns.mergeSort fun a b => decide (a ≤ b)
theorem sortI_perm (ns : List Int) : (sortI ns).Perm ns := List.mergeSort_perm _ _
theorem sI (ns : List Int) : (sortI ns).Pairwise (· ≤ ·) := by
  have := List.pairwise_mergeSort (le := fun a b : Int => decide (a ≤ b)) (fun a b c h1 h2 => by simp only [decide_eq_true_eq] at *; omega) (fun a b => by simp only [Bool.or_eq_true, decide_eq_true_eq]; omega) ns
  exact this.imp fun h => by simpa using h
theorem ur {a b : List Int} (p : a.Perm b) (ha : a.Pairwise (· ≤ ·)) (hb : b.Pairwise (· ≤ ·)) : a = b := List.Perm.eq_of_pairwise (le := (· ≤ ·)) (fun x y _ _ h1 h2 => Int.le_antisymm h1 h2) ha hb p
theorem Bb {ms ns : List Int} (p : ms.Perm ns) (h : ms.Pairwise (· ≤ ·)) : ms = sortI ns := ur (p.trans (sortI_perm ns).symm) h (sI ns)
theorem wm : ∀ {ns : List Int} {us : List Value}, Vals (ns.map V.int) us → IntsAre us ns
  | [], _, .nil => .nil
  | n :: ns, _, .cons r t => by
    obtain ⟨k, rfl⟩ := r
    exact .cons _ _ (wm t)
theorem la : ∀ {ns : List Int} {us : List Value}, IntsAre us ns → Vals (ns.map V.int) us
  | _, _, .nil => .nil
  | _, _, .cons n t r => .cons ⟨t, rfl⟩ (la r)
section
variable {P : Program} {w : World} {A : Around} {E : Value → Shared → Prop} {s : Shared}
theorem mR {T : String} {l : Addr} {vs : List Value} {Q : List Value → Shared → Prop} {o : Obj} {n : Nat} (ho : s.heap.get? l = some o) (hc : o.cls = .type T) (hd : o.data = .seq vs.toArray n) (hT : T = "list" ∨ T = "tuple")
    (h : ∀ h', (∀ b o, s.heap.get? b = some o → h'.get? b = some o) → Q vs { s with heap := h' }) (hsz : vs.length ≤ sizeLine) : wpAny (model P w) A (collect (.ref l)) Q E s := by
  unfold collect
  refine wpAny_bind (wpAny_runValue (codeAny_builtin F.entry_proto_collect ?_))
  rw [Around.under_plainId F.plain_proto_collect _]
  show wpAny _ A.in1 (newList [] >>= fun l' => again (.builtin "list.__iadd__" ⟨[l', .ref l], []⟩)) _ _ s
  refine wpAny_bind (wpAny_newList (wpAny_pure ⟨plainId_quiet F.plain_list_iadd _, codeAny_builtin F.entry_list_iadd ?_⟩))
  rw [Around.under_plainId F.plain_list_iadd _]
  show wpAny _ A.in1 (Builtin.List.listExtendWith (.ref s.heap.objs.size) (.ref l) (.ref s.heap.objs.size)) _ _ { s with heap := s.heap.push (seqObj "list" #[] 0) }
  unfold Builtin.List.listExtendWith
  have gz : (s.heap.push (seqObj "list" #[] 0)).get? l = some o := Heap.get?_push_of_some _ ho
  refine wpAny_bind (wpAny_typeOf (T := T) ⟨o, gz, hc⟩ ?_)
  rw [if_pos (by rcases hT with rfl | rfl <;> simp)]
  refine wpAny_bind (listItems_at gz hd ?_)
  refine wpAny_bind (listItems_at (xs := #[]) (n := 0) (Heap.get?_push_size _ rfl) rfl ?_)
  rw [if_neg (by simp)]
  refine wpAny_bind (listUpdate_at (xs := #[]) (n := 0) (Heap.get?_push_size _ rfl) rfl ?_ (Nat.zero_le _) (by show (#[] ++ vs.toArray).size ≤ sizeLine + 1; simp only [Array.size_append, List.size_toArray, List.length_nil]; omega))
  refine wpAny_pure ?_
  show wpAny (model P w) A (load s.heap.objs.size >>= _) Q E _
  refine wpAny_bind (wpAny_load (get?_update_seq (Heap.get?_push_size _ rfl) _) ?_)
  show wpAny _ _ (pure ((#[] : Array Value) ++ vs.toArray).toList) Q E _
  rw [show ((#[] : Array Value) ++ vs.toArray).toList = vs by simp]
  exact wpAny_pure (h _ fun b o e => (Heap.get?_update_other _ _ (Nat.ne_of_gt (Heap.lt_size e))).trans (Heap.get?_push_of_some _ e))
theorem wo {a : Value} {ns : List Int} {Q : Value → Shared → Prop} (LA : ∀ QL : List Value → Shared → Prop, (∀ us xs h' d' tk, IntsAre us xs → xs.Perm ns → (∀ b o, s.heap.get? b = some o → h'.get? b = some o) → QL us { s with heap := h', drawn := d', toks := tk }) → wpAny (model P w) A.in1 (collect a) QL E s) (Gb : ns.length < 64)
    (h : ∀ (h1 h' : Heap) d' tk (us : List Value) e, IntsAre us (sortI ns) → (∀ b o, s.heap.get? b = some o → h1.get? b = some o) → (∀ b o, h1.get? b = some o → h'.get? b = some o) → h'.get? h1.objs.size = some { cls := .type "list", data := .seq us.toArray e } → Q (.ref h1.objs.size) { s with heap := h', drawn := d', toks := tk }) :
    wpAny (model P w) A (call (.builtin "sorted") [a]) Q E s := by
  refine Calls.call_function_entry kind_sorted plain_sorted entry_sorted (args_sorted1 _) ?_
  unfold Builtin.«sorted»
  refine wpAny_bind (m := checkCount "sorted" 1 1 _) (wpAny_pure ?_)
  refine wpAny_bind (LA _ fun us xs h' d' tk hI hp hk => ?_)
  have Gd : us.length < 64 := by
    have : us.length = xs.length := (la hI).length.symm.trans (List.length_map _)
    rw [this, hp.length_eq]
    exact Gb
  refine wpAny_bind (wpAny_newList ?_ (hsz := Nat.le_trans (Nat.le_of_lt Gd) (by decide)))
  have xN : (h'.push (seqObj "list" us.toArray 0)).get? h'.objs.size = some (seqObj "list" us.toArray 0) := Heap.get?_push_size _ rfl
  refine wpAny_bind (wpAny_holding (wpAny_call_entry slot_list_sort ⟨_, xN, rfl⟩ entry_list_sort (list_sort_tree xN hI Gd fun out O3 a1 a2 a3 => ⟨_, rfl, ?_⟩) (args_list_sort _)))
  refine wpAny_pure ⟨_, rfl, ?_⟩
  obtain ⟨e, he⟩ := sortedHeap_at (out := out) xN
  refine h h' _ d' tk out.toList e (by rw [← Bb (a2.trans hp) a3]; exact a1) hk (fun b o hb => ?_) (by simpa using he)
  have aT := Heap.lt_size hb
  rw [sortedHeap_old (Nat.ne_of_lt aT) (by rw [Heap.size_push]; exact Nat.lt_succ_of_lt aT)]
  exact Heap.get?_push_of_some _ hb
end
theorem oz {P : Program} {w : World} {h : Heap} {a : Addr} {ns : List Int} (x : bF P w h a ns) : ∃ o, h.get? a = some o := let ⟨o, _, _, _, e, _⟩ := x; ⟨o, e⟩
theorem pB {P : Program} {w : World} {H : Hp} {h : Heap} {a : Addr} {ns : List Int} (x : bF P w h a ns) : ObjOk P w H h a (fE P w a ns) := ⟨x, oz x, fun h1 h2 y k => y.bO k⟩
theorem u5 {X : Cx} {pins : List (Addr × Obj)} {σ : St} {H : Hp} {s : Shared} {a : Addr} {ns : List Int} (I : Inv X pins σ H s) (h : H a = some (fE X.prog X.w a ns)) : bF X.prog X.w s.heap a ns := (I.hok a _ h).1
section
variable {P : Program} {w : World} {A : Around} {E : Value → Shared → Prop} {s : Shared}
theorem DC {Q : Value → Shared → Prop} (h : Q (.ref s.heap.objs.size) { s with heap := s.heap.push (fF w) }) : wpAny (model P w) A (newSet (.type "set")) Q E s := by
  unfold newSet setsByText
  refine wpAny_bind (wpAny_bind (wpAny_askSetting (wpAny_pure ?_)))
  dsimp only
  simp only [newObj]
  exact wpAny_bind (wpAny_alloc (wpAny_pure h))
theorem yH {a : Addr} {ns : List Int} {m : Int} {tk : Tok} {Q : Value → Shared → Prop} (hS : bF P w s.heap a ns) (j9 : ns.length + 1 < scanBound)
    (h : ∀ h' yD, Heap.SameBut a s.heap h' → bF P w h' a (cB ns m) → Q .none { s with heap := h', toks := yD }) : wpAny (model P w) A (call (.builtin "set.add") [.ref a, .int m tk]) Q E s := by
  refine wpAny_call_entry F.slot_set_add (bF.typeIs (h := s.heap) hS) F.entry_set_add ?_ (F.args_set_add_2 _ _)
  unfold Builtin.«set.add» Builtin.Frozenset.oneOther
  simp only [List.isEmpty_nil, bind_assoc]
  unfold Builtin.Frozenset.addrOf
  refine wpAny_bind (wpAny_pure ?_)
  try dsimp only
  refine wpAny_bind (wpAny_pure ?_)
  try dsimp only
  refine wpAny_bind (qt hS j9 fun h' gf iX => ?_)
  show wpAny _ _ (ret Value.none) _ _ _
  exact wpAny_pure ⟨_, rfl, h h' _ gf iX⟩
theorem sJ (elt target iter : Expr) (ifs : List Expr) (scope : Scope) (pos : Pos) (it acc : Value) (env : Env) :
    compTurn (.SetComp elt [⟨target, iter, ifs, 0⟩] scope pos) 0 it acc env = (do
      standAt iter.pos
      match ← pyNext it with
      | none => pure (.done .next)
      | some v =>
        letOwnedTupleGo target it v
        assign target env v
        let mut ok := true
        for c in ifs do
          if ok then ok ← isTrue c env (eval c env)
        if ok then
          (eval elt env >>= fun v => standAt elt.pos >>= fun _ => call (.builtin "set.add") [acc, v] >>= fun _ => pure ())
        again (.compLoop (.SetComp elt [⟨target, iter, ifs, 0⟩] scope pos) 0 it acc env)) := by rfl
theorem uv {R : Result → Shared → Prop} {elt target iter ifs rest scope pos it acc env}
    (h0 : codeAny (model P w) A (.compLoop (.SetComp elt (⟨target, iter, ifs, 0⟩ :: rest) scope pos) 0 it acc env) R s)
    (h : wpAny (model P w) A (pyIter it) (fun Ge s' => codeAny (model P w) A (.compLoop (.SetComp elt (⟨target, iter, ifs, 0⟩ :: rest) scope pos) 0 Ge acc env) R s')
      (notedBy (model P w) A env fun x s' => R (.error x) s') s) :
    codeAny (model P w) A (.compStart (.SetComp elt (⟨target, iter, ifs, 0⟩ :: rest) scope pos) 0 it acc env) R s := by
  refine codeAny_of_tree ?_
  show wpAny _ _ ((compStart (.SetComp elt (⟨target, iter, ifs, 0⟩ :: rest) scope pos) 0 it acc env).onRaise (fun x => do noteFrame x env; standAt theWindowsPlace)) _ _ s
  refine wpAny_notedAt ?_
  unfold compStart
  show wpAny _ _ (ask >>= _) _ _ s
  refine wpAny_bind (wpAny_askSetting (wpAny_ite ?_))
  split
  · first
      | exact wpAny_bind (wpAny_pure (wpAny_pure (And.intro rfl h0)))
      | exact wpAny_pure (And.intro rfl h0)
  · first
      | exact wpAny_bind (wpAny_rule (wpAny_bind (wpAny_standAt (wpAny_bind (wpAny_mono h (fun Ge s' h' => wpAny_pure (And.intro rfl h')) fun _ _ x => x)))))
      | (refine wpAny_bind (wpAny_rule ?_); show wpAny _ _ (standAt iter.pos >>= _) _ _ s; exact wpAny_bind (wpAny_standAt (wpAny_bind (wpAny_mono h (fun Ge s' h' => wpAny_pure (And.intro rfl h')) fun _ _ x => x))))
end
section
variable {X : Cx}
noncomputable def yI (X : Cx) (J : It) (g : TG) (tt : TT) (te : TE) (D : Addr) (Q : VK) (W : Nat → Nat → St → Hp → Prop) : Prop := ∀ i m τ H, W i m τ H →
  (J.stop i H ∧ Q (.ref D) H) ∨ (J.go i H ∧ ∀ x H', J.yld i H x H' → g x τ H' fun aB H2 => tt aB H2 fun b H3 => if b = true then te aB H3 fun y H4 => ∃ k ns m', y = .int k ∧ H4 D = some (fE X.prog X.w D ns) ∧ ns.length + 1 < scanBound ∧ m' < m ∧ W (i + 1) m' aB (upd H4 D (fE X.prog X.w D (cB ns k))) else ∃ m', m' < m ∧ W (i + 1) m' aB H3)
noncomputable def yJ (X : Cx) (tn : Nat) (idx : List Nat) (wi : TI) (g : TG) (tt : TT) (te : TE) : TE := fun σ H Q => wi σ H fun J H1 => ∀ D, H1 D = none → ∃ W : Nat → Nat → St → Hp → Prop, (∃ m, W 0 m (bo tn idx σ) (upd H1 D (fE X.prog X.w D []))) ∧ yI X J g tt te D Q W
theorem wq {pins : List (Addr × Obj)} {σ : St} {H2 : Hp} {s2 : Shared} {tg elt iter : Expr} {ifs : List Expr} {scope : Scope} {pos : Pos} {N' : List Str} {tn : Nat} {idx : List Nat} {g : TG} {tt : TT} {te : TE} {it : Addr} {fp : List Addr} {cA : Nat → Heap → Prop} {J : It}
    {cl : List (Str × Addr)} {E : Value → Shared → Prop} {RR : Value → Addr → Result → Shared → Prop} {Q : VK}
    (hc : X.calm = true) (B : aE X.N X.env.scope scope N' tn idx)
    (hg : Blk X N' scope fun Y => PG Y tg g) (ht : Blk X N' scope fun Y => iU Y ifs tt) (he : Blk X N' scope fun Y => PE Y elt te)
    (I : Inv X pins σ H2 s2) (T : Turn X.prog X.w X.K tg J fp it cA) (st : cA 0 s2.heap) (f2 : ∀ b ∈ fp, cS X pins H2 b)
    (cM : ∀ n c, cl.lookup n = some c → X.env.cells.lookup n = some c) (ee : ∀ n, (n, NameKind.free) ∈ scope.names → ∃ c, cl.lookup n = some c)
    (hq : ∀ D, H2 D = none → ∃ W : Nat → Nat → St → Hp → Prop, (∃ m, W 0 m (bo tn idx σ) (upd H2 D (fE X.prog X.w D []))) ∧ yI X J g tt te D Q W)
    (yp : ∀ D C m s' H', Inv X pins σ H' s' → cS X pins H' C → s'.heap.Ns C m → Q (.ref D) H' → RR (.ref D) C (.ok .next) s') :
    wpAny (model X.prog X.w) X.A (newSet (.type "set")) (fun acc dC => wpAny (model X.prog X.w) X.A (newFunctionEnv scope X.env.globals cl [] X.env.qual none .none (some X.env)) (fun kY sf =>
      codeAny (model X.prog X.w) X.A (.compStart (.SetComp elt [⟨tg, iter, ifs, 0⟩] scope pos) 0 (.ref it) acc { kY with scope := relabel scope X.env }) (RR acc kY.locals) sf) E dC) E s2 := by
  obtain ⟨b1, b2, b3, b4⟩ := id B
  refine DC (wpAny_newFunctionEnv (fun y hy => (b2 y hy).1) (by intro y hy; simp at hy) (fun c5 gb gd => ?_) b1)
  dsimp only at gb gd ⊢
  generalize hG : s2.heap.push (fF X.w) = G at gb gd ⊢
  have hC : G.objs.size = s2.heap.objs.size + 1 := by rw [← hG, Heap.size_push]
  have sg : s2.heap.objs.size ≠ G.objs.size := by rw [hC]; exact Nat.ne_of_lt (Nat.lt_succ_self _)
  have gG : s2.heap.objs.size ≤ G.objs.size := by rw [hC]; exact Nat.le_succ _
  have below : ∀ b, b < s2.heap.objs.size → b ≠ G.objs.size := fun b hb => by rw [hC]; exact Nat.ne_of_lt (Nat.lt_succ_of_lt hb)
  have old : ∀ b o, s2.heap.get? b = some o → c5.get? b = some o := fun b o e => gd.extBut b o (below b (Heap.lt_size e)) (Heap.get?_push_of_some _ (hG ▸ Heap.get?_push_of_some _ e))
  have yq : bF X.prog X.w c5 s2.heap.objs.size [] := by
    have q : bF X.prog X.w G s2.heap.objs.size [] := hG ▸ uY
    exact q.bO fun o e => gd.extBut _ _ sg (Heap.get?_push_of_some _ e)
  have qm : H2 s2.heap.objs.size = none := I.hok.fresh (Nat.le_refl _)
  have oe : upd H2 s2.heap.objs.size (fE X.prog X.w s2.heap.objs.size []) G.objs.size = none := by rw [ae (Ne.symm sg)]; exact I.hok.fresh gG
  have sh : cc X.prog X.w (upd H2 s2.heap.objs.size (fE X.prog X.w s2.heap.objs.size [])) c5 := I.hok.laid old (Nat.le_refl _) (pB yq)
  have ik : ∀ b ∈ fp, b < s2.heap.objs.size := fun b hb => let ⟨o, e, _⟩ := T.obj _ _ st b hb; Heap.lt_size e
  obtain ⟨W, ⟨m0, w0⟩, turn⟩ := hq s2.heap.objs.size qm
  have I1 : Inv (gB X N' scope cl G.objs.size s2 H2 fp) [] (bo tn idx σ) (upd H2 s2.heap.objs.size (fE X.prog X.w s2.heap.objs.size [])) { s2 with heap := c5, toks := s2.toks + ([] : List (Str × Value)).length } := by
    refine kX (g' := s2.gens) (m0 := fun x => ([] : List (Str × Value)).reverse.lookup x) I b1 rfl rfl cM (fun x hx => ?_) (fun z => I.ok.hd z) I.ok.frames (.inl rfl) gG f2 ik (Un.laid old (Nat.le_refl _) qm) sh oe old gb (fun i x v e1 e2 e3 => ?_) (B.len σ) I.bare.self
    · have gC : (relabel scope X.env).names.lookup x = some .cell ∨ (relabel scope X.env).names.lookup x = some .free := hx
      rw [cT] at gC
      cases q : scope.names.lookup x with
      | none => rw [q] at gC; rcases gC with z | z <;> cases z
      | some k0 =>
        have hm := PySem.mem_of_lookup q
        rw [q] at gC
        by_cases hk : k0 = .free
        · subst hk; exact ee x hm
        · have nk : (k0 == NameKind.free) = false := by simpa using hk
          have nc := (b2 _ hm).1
          simp only [Option.map_some, nk, Bool.false_and, Bool.false_eq_true, if_false] at gC
          rcases gC with z | z
          · exact absurd (Option.some.inj z) nc
          · exact absurd (Option.some.inj z) hk
    · obtain ⟨fr, j, e4, e5⟩ := B.at e1 e2
      have kx := (b2 _ (PySem.mem_of_lookup fr)).2.2 rfl
      refine ⟨?_, .inr kx, kx, j, e4, e5⟩
      show (relabel scope X.env).names.lookup x = some .cell ∨ (relabel scope X.env).names.lookup x = some .free
      rw [cT, fr]
      simp only [Option.map_some]
      split
      · exact .inl rfl
      · exact .inr rfl
  have stat : ∀ {H' : Hp}, (∀ b ∈ fp, H' b = none) → ∀ b ∈ fp, cS (gB X N' scope cl G.objs.size s2 H2 fp) [] H' b := fun hn b hb => by
    refine ⟨hn b hb, below b (ik b hb), fun z => ?_, .inl hb, fun x c e => (f2 b hb).2.2.2.2.1 x c (cM x c e), fun p hp => absurd (show p ∈ ([] : List (Addr × Obj)) from hp) (by simp)⟩
    rcases List.mem_cons.mp (I.eB b z) with q | q
    · exact (f2 b hb).2.1 q
    · exact (f2 b hb).2.2.1 q
  have loop : ∀ dC : Shared, dC = { s2 with heap := c5, toks := s2.toks + ([] : List (Str × Value)).length } →
      codeAny (model X.prog X.w) X.A (.compLoop (.SetComp elt [⟨tg, iter, ifs, 0⟩] scope pos) 0 (.ref it) (.ref s2.heap.objs.size) (compEnvC scope cl G.objs.size X.env))
        (RR (.ref s2.heap.objs.size) G.objs.size) dC := by
    rintro dC rfl
    refine codeAny_loop rfl (fun n s' => ∃ i τ H', Inv (gB X N' scope cl G.objs.size s2 H2 fp) [] τ H' s' ∧ cA i s'.heap ∧ (∀ b ∈ fp, H' b = none) ∧ W i n τ H') (fun n s hI => ?_) m0
      ⟨0, _, _, I1, T.keep _ _ _ st fun b _ o e => old b o e, fun b hb => by rw [ae (Nat.ne_of_lt (ik b hb))]; exact (f2 b hb).1, w0⟩
    show wpAny _ X.A ((compTurn (.SetComp elt [⟨tg, iter, ifs, 0⟩] scope pos) 0 (.ref it) (.ref s2.heap.objs.size) (compEnvC scope cl G.objs.size X.env)).onRaise (fun x => do noteFrame x (compEnvC scope cl G.objs.size X.env); theTreesLotGoes x)) _ _ s
    refine wpAny_noted ?_
    rw [sJ]
    obtain ⟨i, τ, H3, I3, js, kQ, w3⟩ := hI
    rcases turn i n τ H3 w3 with ⟨stop, qn⟩ | ⟨go, step⟩
    · refine wpAny_bind (wpAny_standAt (wpAny_bind (wpAny_mono (T.done (gB X N' scope cl G.objs.size s2 H2 fp) rfl rfl rfl hc i [] s τ H3 (fun _ _ => False) I3 (stat kQ) js stop) (fun r s4 ⟨hr, I4⟩ => ?_) fun _ _ z => z.elim)))
      subst hr
      refine wpAny_pure ?_
      have J2 : Inv X pins σ H3 s4 := I.nQ I4.os I4.base I4.hok I4.bare fun b hb => ⟨(f2 b hb).2.2.2.1, (f2 b hb).2.1, (f2 b hb).2.2.2.2.1, (f2 b hb).2.2.2.2.2⟩
      obtain ⟨mm, hm, _⟩ := I4.loc
      exact yp _ _ mm s4 H3 J2 (I.jH gG I4.free) hm qn
    · refine wpAny_bind (wpAny_standAt (wpAny_bind (wpAny_mono (T.item (gB X N' scope cl G.objs.size s2 H2 fp) rfl rfl rfl hc i [] s τ H3 (fun _ _ => False) I3 (stat kQ) js go) (fun r s4 ⟨u, hr, h4⟩ => ?_) fun _ _ z => z.elim)))
      subst hr
      refine wpAny_bind (wpAny_mono h4 (fun _ s5 ⟨x, H5, I5, r5, y5, f7, nX⟩ => ?_) fun _ _ z => z.elim)
      have nY := I5.pinned (stat nX) (T.obj _ _ f7)
      have again : ∀ {gX : St} {H7 : Hp} {s7 : Shared}, Inv (gB X N' scope cl G.objs.size s2 H2 fp) ([] ++ gV fp s5.heap) gX H7 s7 → (∃ m', m' < n ∧ W (i + 1) m' gX H7) →
          ∃ m, m < n ∧ ∃ i τ H', Inv (gB X N' scope cl G.objs.size s2 H2 fp) [] τ H' s7 ∧ cA i s7.heap ∧ (∀ b ∈ fp, H' b = none) ∧ W i m τ H' := fun {gX H7 s7} I7 n7 => by
        obtain ⟨m', hm, w7⟩ := n7
        refine ⟨m', hm, i + 1, gX, H7, I7.dP, T.keep _ _ _ f7 fun b hb o e => (I7.pin (b, o) (List.mem_append_right _ (List.mem_append_right _ (cu hb e)))).1, fun b hb => ?_, w7⟩
        obtain ⟨o, e, d⟩ := T.obj _ _ f7 b hb
        exact (I7.pin (b, o) (List.mem_append_right _ (List.mem_append_right _ (cu hb e)))).2.1
      refine wpAny_bind (wpAny_mono (hg cl G.objs.size s2 H2 fp _ s5 τ H5 x u _ nY r5 (step x H5 y5)) (fun _ s6 ⟨ip, H6, I6, q6⟩ => ?_) fun _ _ z => z.elim)
      refine wpAny_bind (wpAny_mono (ht cl G.objs.size s2 H2 fp _ s6 ip H6 _ I6 q6) (fun ok s7 ⟨H7, I7, q7⟩ => ?_) fun _ _ z => z.elim)
      cases ok with
      | false => exact wpAny_pure ⟨rfl, again I7 q7⟩
      | true =>
        refine wpAny_bind (wpAny_bind (wpAny_mono (he cl G.objs.size s2 H2 fp _ s7 ip H7 _ I7 q7) (fun yv s8 ⟨y, H8, I8, r8, q8⟩ => ?_) fun _ _ z => z.elim))
        obtain ⟨m, ns, m', ey, hD, hsz, kZ, w8⟩ := q8
        subst ey
        obtain ⟨tk, rfl⟩ := r8
        refine wpAny_bind (wpAny_standAt (wpAny_bind (yH (u5 (X := gB X N' scope cl G.objs.size s2 H2 fp) I8 hD) hsz fun h' yD gf hM => ?_)))
        have I9 := I8.write (x := s2.heap.objs.size) (e := s2.heap.objs.size) (t' := yD) (by rw [hD]; exact trivial) (.inl rfl) (fun b u hb hu => (gf.2 b hb).trans hu) (oz hM) (pB hM)
        exact wpAny_pure (wpAny_pure ⟨rfl, again I9 ⟨m', kZ, w8⟩⟩)
  exact uv (loop _ rfl) (T.self _ 0 _ _ _ (T.keep _ _ _ st fun b _ o e => old b o e) (loop _ rfl))
variable {tg elt iter : Expr} {ifs : List Expr} {scope : Scope} {pos : Pos} {N' : List Str} {tn : Nat} {idx : List Nat} {wi : TI} {g : TG} {tt : TT} {te : TE}
theorem wt (hc : X.calm = true) (B : aE X.N X.env.scope scope N' tn idx) (hi : PI X tg iter wi)
    (hg : Blk X N' scope fun Y => PG Y tg g) (ht : Blk X N' scope fun Y => iU Y ifs tt) (he : Blk X N' scope fun Y => PE Y elt te)
    (hs : ∀ x, foldedSetIterable iter X.env x = pure x := by intro _; rfl) : PE X (.SetComp elt [⟨tg, iter, ifs, 0⟩] scope pos) (yJ X tn idx wi g tt te) := by
  refine ⟨?_⟩
  intro pins s σ H Q I h
  obtain ⟨cl, fv, cM, ee⟩ := eV (scope := scope) (env := X.env) fun n hn => I.ok.has n ((B.2.1 _ hn).2.2 rfl)
  rw [arm_eval_SetComp]
  refine wpAny_comprehension_free (use := none) rfl hs fv B.1 (fun y hy => (B.2.1 y hy).2.1) (wpAny_mono (hi pins s σ H _ I h) (fun xv s1 h1 => wpAny_mono h1 (fun rU s2 h2 => ?_) fun _ _ z => z) fun _ _ z => z)
  obtain ⟨it, fp, cA, J, H2, e, I2, T, kP, f2, q2⟩ := h2
  subst e
  refine wq (RR := fun acc C => compPost (model X.prog X.w) X.A X.xe none (EP X pins σ Q) acc C) hc B hg ht he I2 T kP f2 cM ee q2 fun D C m s' H' J2 fC hm q => ?_
  exact ⟨m, hm, fun h' mL => ⟨.ref D, H', fC.turn J2 mL, rfl, q⟩⟩
end
inductive Dt where
  | aq | bl (b : Bool) | int (i : Int) | str (x : Str) | lst (xs : List Dt) | tup (xs : List Dt)
inductive dY (H : Hp) : V → Dt → Prop where
  | aq : dY H .aq .aq
  | bl (b : Bool) : dY H (.bl b) (.bl b)
  | int (i : Int) : dY H (.int i) (.int i)
  | str (x : Str) : dY H (.str x) (.str x)
  | lst {a : Addr} {xs : List V} {ds : List Dt} (e : H a = some (.lst xs)) (hl : xs.length = ds.length) (h : ∀ (i : Nat) (x : V) (d : Dt), xs[i]? = some x → ds[i]? = some d → dY H x d) : dY H (.ref a) (.lst ds)
  | tup {a : Addr} {xs : List V} {ds : List Dt} (e : H a = some (.tup xs)) (hl : xs.length = ds.length) (h : ∀ (i : Nat) (x : V) (d : Dt), xs[i]? = some x → ds[i]? = some d → dY H x d) : dY H (.ref a) (.tup ds)
mutual
noncomputable def c0 : Dt → Dt → Bool
  | .aq, .aq => true
  | .bl a, .bl b => a == b
  | .bl a, .int b => (if a then 1 else 0) == b
  | .int a, .bl b => a == (if b then 1 else 0)
  | .int a, .int b => a == b
  | .str a, .str b => a == b
  | .lst xs, .lst ys => fo xs ys
  | .tup xs, .tup ys => fo xs ys
  | _, _ => false
noncomputable def fo : List Dt → List Dt → Bool
  | [], [] => true
  | x :: xs, y :: ys => c0 x y && fo xs ys
  | _, _ => false
end
mutual
theorem kb : ∀ d : Dt, c0 d d = true
  | .aq => by simp [c0]
  | .bl b => by simp [c0]
  | .int i => by simp [c0]
  | .str x => by simp [c0]
  | .lst xs => by simp only [c0]; exact lb xs
  | .tup xs => by simp only [c0]; exact lb xs
theorem lb : ∀ ds : List Dt, fo ds ds = true
  | [] => by simp [fo]
  | d :: ds => by simp only [fo]; rw [kb d, lb ds]; rfl
end
theorem dR : ∀ (xs ys : List Dt), fo xs ys = ((List.range (min xs.length ys.length)).all (fun j => c0 (xs.getD j .aq) (ys.getD j .aq)) && xs.length == ys.length)
  | [], [] => by simp [fo]
  | [], _ :: _ => by simp [fo]
  | _ :: _, [] => by simp [fo]
  | x :: xs, y :: ys => by
    rw [fo, dR xs ys]
    have e : min (x :: xs).length (y :: ys).length = min xs.length ys.length + 1 := by simp [Nat.succ_min_succ]
    rw [e, List.range_succ_eq_map, List.all_cons, List.all_map]
    have e2 : ((x :: xs).length == (y :: ys).length) = (xs.length == ys.length) := by simp
    rw [e2, Bool.and_assoc]
    rfl
theorem dY.inj {H : Hp} {v : V} {d : Dt} (h : dY H v d) : ∀ {d' : Dt}, dY H v d' → d = d' := by
  induction h with
  | aq => intro d' h'; cases h'; rfl
  | bl b => intro d' h'; cases h'; rfl
  | int i => intro d' h'; cases h'; rfl
  | str x => intro d' h'; cases h'; rfl
  | lst e hl h ih =>
    intro d' h'
    cases h' with
    | lst e' Gf h' =>
      rw [e] at e'; cases e'
      congr 1
      refine List.ext_getElem? fun i => ?_
      rename_i xs ds fT
      by_cases hi : i < xs.length
      · rw [List.getElem?_eq_getElem (by omega), List.getElem?_eq_getElem (by omega)]
        exact congrArg some (ih i _ _ (List.getElem?_eq_getElem hi) (List.getElem?_eq_getElem (by omega)) (h' i _ _ (List.getElem?_eq_getElem hi) (List.getElem?_eq_getElem (by omega))))
      · rw [List.getElem?_eq_none (by omega), List.getElem?_eq_none (by omega)]
    | tup e' Gf h' => rw [e] at e'; cases e'
  | tup e hl h ih =>
    intro d' h'
    cases h' with
    | lst e' Gf h' => rw [e] at e'; cases e'
    | tup e' Gf h' =>
      rw [e] at e'; cases e'
      congr 1
      refine List.ext_getElem? fun i => ?_
      rename_i xs ds fT
      by_cases hi : i < xs.length
      · rw [List.getElem?_eq_getElem (by omega), List.getElem?_eq_getElem (by omega)]
        exact congrArg some (ih i _ _ (List.getElem?_eq_getElem hi) (List.getElem?_eq_getElem (by omega)) (h' i _ _ (List.getElem?_eq_getElem hi) (List.getElem?_eq_getElem (by omega))))
      · rw [List.getElem?_eq_none (by omega), List.getElem?_eq_none (by omega)]
mutual
noncomputable def iq : Dt → Nat
  | .lst xs => fq xs + 1
  | .tup xs => fq xs + 1
  | _ => 0
noncomputable def fq : List Dt → Nat
  | [] => 0
  | x :: xs => max (iq x) (fq xs)
end
theorem iZ : ∀ {ds : List Dt} {i : Nat} {d : Dt}, ds[i]? = some d → iq d ≤ fq ds
  | [], _, _, h => by simp at h
  | x :: xs, 0, d, h => by
    simp at h; subst h
    rw [fq]; exact Nat.le_max_left _ _
  | x :: xs, i + 1, d, h => by
    rw [fq]
    exact Nat.le_trans (iZ (i := i) (by simpa using h)) (Nat.le_max_right _ _)
section
variable {X : Cx} {pins : List (Addr × Obj)} {σ : St} {H : Hp} {s : Shared}
theorem Inv.lists (I : Inv X pins σ H s) {a : Addr} {xs : List V} (h : H a = some (.lst xs)) : ∃ its : List Value, Vals xs its ∧ s.heap.IsList a its.toArray := by
  obtain ⟨its, rv, p, _⟩ := I.list (bB.of h)
  exact ⟨its, rv, p.isList⟩
theorem Inv.tups (I : Inv X pins σ H s) {a : Addr} {xs : List V} (h : H a = some (.tup xs)) : ∃ its : List Value, Vals xs its ∧ s.heap.IsTuple a its.toArray := by
  obtain ⟨its, rv, p, _⟩ := I.tuple (ck.of h)
  exact ⟨its, rv, p⟩
theorem oA (I : Inv X pins σ H s) {x y : V} {d : Dt} (hx : dY H x d) : ∀ {e : Dt} {u v : Value} {A : Around}, dY H y e → RelV x u → RelV y v → A.units + iq d < cLine → SeqAt.EqAt A s u v (c0 d e) := by
  have lists := fun {a : Addr} {xs : List V} (h : H a = some (.lst xs)) => I.lists h
  have tups := fun {a : Addr} {xs : List V} (h : H a = some (.tup xs)) => I.tups h
  induction hx generalizing y with
  | aq =>
    intro e u v A hy rx ry hu
    have aP : A.units < cLine := by omega
    cases rx
    cases hy with
    | aq => cases ry; exact SeqAt.EqAt.same _
    | bl b => cases ry; exact SeqAt.EqAt.none_bool _
    | int i => obtain ⟨t, rfl⟩ := ry; exact SeqAt.EqAt.none_int _ _
    | str z => obtain ⟨t, rfl⟩ := ry; exact SeqAt.EqAt.none_str _ _
    | lst e2 _ _ => cases ry; obtain ⟨_, _, p⟩ := lists e2; exact SeqAt.EqAt.none_list p aP
    | tup e2 _ _ => cases ry; obtain ⟨_, _, p⟩ := tups e2; exact SeqAt.EqAt.none_tuple p aP
  | bl a =>
    intro e u v A hy rx ry hu
    have aP : A.units < cLine := by omega
    cases rx
    cases hy with
    | aq => cases ry; exact SeqAt.EqAt.bool_none _
    | bl b => cases ry; exact SeqAt.EqAt.bool_bool _ _
    | int i => obtain ⟨t, rfl⟩ := ry; exact SeqAt.EqAt.bool_int _ _ _
    | str z => obtain ⟨t, rfl⟩ := ry; exact SeqAt.EqAt.bool_str _ _ _
    | lst e2 _ _ => cases ry; obtain ⟨_, _, p⟩ := lists e2; exact SeqAt.EqAt.bool_list _ p aP
    | tup e2 _ _ => cases ry; obtain ⟨_, _, p⟩ := tups e2; exact SeqAt.EqAt.bool_tuple _ p aP
  | int a =>
    intro e u v A hy rx ry hu
    have aP : A.units < cLine := by omega
    obtain ⟨ta, rfl⟩ := rx
    cases hy with
    | aq => cases ry; exact SeqAt.EqAt.int_none _ _
    | bl b => cases ry; exact SeqAt.EqAt.int_bool _ _ _
    | int i => obtain ⟨t, rfl⟩ := ry; exact SeqAt.EqAt.int_int _ _ _ _
    | str z => obtain ⟨t, rfl⟩ := ry; exact SeqAt.EqAt.int_str _ _ _ _
    | lst e2 _ _ => cases ry; obtain ⟨_, _, p⟩ := lists e2; exact SeqAt.EqAt.int_list _ _ p aP
    | tup e2 _ _ => cases ry; obtain ⟨_, _, p⟩ := tups e2; exact SeqAt.EqAt.int_tuple _ _ p aP
  | str a =>
    intro e u v A hy rx ry hu
    have aP : A.units < cLine := by omega
    obtain ⟨ta, rfl⟩ := rx
    cases hy with
    | aq => cases ry; exact SeqAt.EqAt.str_none _ _
    | bl b => cases ry; exact SeqAt.EqAt.str_bool _ _ _
    | int i => obtain ⟨t, rfl⟩ := ry; exact SeqAt.EqAt.str_int _ _ _ _
    | str z => obtain ⟨t, rfl⟩ := ry; exact SeqAt.EqAt.str_str _ _ _ _
    | lst e2 _ _ => cases ry; obtain ⟨_, _, p⟩ := lists e2; exact SeqAt.EqAt.str_list _ _ p aP
    | tup e2 _ _ => cases ry; obtain ⟨_, _, p⟩ := tups e2; exact SeqAt.EqAt.str_tuple _ _ p aP
  | lst e1 jS h1 ih =>
    rename_i a xs ds
    intro e u v A hy rx ry hu
    have aP : A.units < cLine := by omega
    have yK : A.units + fq ds + 1 < cLine := by rw [iq] at hu; omega
    cases rx
    obtain ⟨its, rv, p⟩ := lists e1
    cases hy with
    | aq => cases ry; exact SeqAt.EqAt.list_none p aP
    | bl b => cases ry; exact SeqAt.EqAt.list_bool _ p aP
    | int i => obtain ⟨t, rfl⟩ := ry; exact SeqAt.EqAt.list_int _ _ p aP
    | str z => obtain ⟨t, rfl⟩ := ry; exact SeqAt.EqAt.list_str _ _ p aP
    | lst e2 gA h2 =>
      rename_i b ys es
      cases ry
      by_cases yL : a = b
      · subst yL
        have := (dY.lst e1 jS h1).inj (dY.lst e2 gA h2)
        cases this
        rw [kb]
        exact SeqAt.EqAt.same _
      · obtain ⟨b7, gY, p2⟩ := lists e2
        have l1 := rv.length
        have l2 := gY.length
        have at_ : ∀ j (g1 : j < its.toArray.size) (g2 : j < b7.toArray.size), SeqAt.EqAt A.in1 s its.toArray[j] b7.toArray[j] (c0 (ds.getD j .aq) (es.getD j .aq)) := fun j g1 g2 => by
          have gZ : j < xs.length := by rw [l1]; simpa using g1
          have g5 : j < ys.length := by rw [l2]; simpa using g2
          have r1 := bY rv g1
          have r2 := bY gY g2
          rw [List.getD_eq_getElem?_getD, List.getElem?_eq_getElem gZ] at r1
          rw [List.getD_eq_getElem?_getD, List.getElem?_eq_getElem g5] at r2
          have d1 : ds[j]? = some ds[j] := List.getElem?_eq_getElem (by omega)
          have d2 : es[j]? = some es[j] := List.getElem?_eq_getElem (by omega)
          rw [List.getD_eq_getElem?_getD, List.getD_eq_getElem?_getD, d1, d2]
          have := iZ d1
          exact ih j _ _ (List.getElem?_eq_getElem gZ) d1 (h2 j _ _ (List.getElem?_eq_getElem g5) d2) r1 r2 (by show A.units + 1 + _ < cLine; omega)
        refine SeqAt.EqAt.of_refs yL ?_
        rw [c0, dR]
        by_cases hsz : ds.length = es.length
        · have q := SeqAt.RcAt.lists p p2 (by simp only [List.size_toArray]; omega) aP at_
          have z : (ds.length == es.length) = true := by simpa using hsz
          rw [z, Bool.and_true, ← hsz, Nat.min_self]
          rw [List.size_toArray, ← l1, jS] at q
          exact q
        · have z : (ds.length == es.length) = false := by simpa using hsz
          rw [z, Bool.and_false]
          exact SeqAt.RcAt.lists_lengths p p2 (by simp only [List.size_toArray]; simpa [bne_iff_ne] using (show its.length ≠ b7.length by omega)) aP
    | tup e2 gA h2 => cases ry; obtain ⟨_, _, p2⟩ := tups e2; exact SeqAt.EqAt.list_tuple p p2 aP
  | tup e1 jS h1 ih =>
    rename_i a xs ds
    intro e u v A hy rx ry hu
    have aP : A.units < cLine := by omega
    have yK : A.units + fq ds + 1 < cLine := by rw [iq] at hu; omega
    cases rx
    obtain ⟨its, rv, p⟩ := tups e1
    cases hy with
    | aq => cases ry; exact SeqAt.EqAt.tuple_none p aP
    | bl b => cases ry; exact SeqAt.EqAt.tuple_bool _ p aP
    | int i => obtain ⟨t, rfl⟩ := ry; exact SeqAt.EqAt.tuple_int _ _ p aP
    | str z => obtain ⟨t, rfl⟩ := ry; exact SeqAt.EqAt.tuple_str _ _ p aP
    | lst e2 gA h2 => cases ry; obtain ⟨_, _, p2⟩ := lists e2; exact SeqAt.EqAt.tuple_list p p2 aP
    | tup e2 gA h2 =>
      rename_i b ys es
      cases ry
      by_cases yL : a = b
      · subst yL
        have := (dY.tup e1 jS h1).inj (dY.tup e2 gA h2)
        cases this
        rw [kb]
        exact SeqAt.EqAt.same _
      · obtain ⟨b7, gY, p2⟩ := tups e2
        have l1 := rv.length
        have l2 := gY.length
        have at_ : ∀ j (g1 : j < its.toArray.size) (g2 : j < b7.toArray.size), SeqAt.EqAt A.in1 s its.toArray[j] b7.toArray[j] (c0 (ds.getD j .aq) (es.getD j .aq)) := fun j g1 g2 => by
          have gZ : j < xs.length := by rw [l1]; simpa using g1
          have g5 : j < ys.length := by rw [l2]; simpa using g2
          have r1 := bY rv g1
          have r2 := bY gY g2
          rw [List.getD_eq_getElem?_getD, List.getElem?_eq_getElem gZ] at r1
          rw [List.getD_eq_getElem?_getD, List.getElem?_eq_getElem g5] at r2
          have d1 : ds[j]? = some ds[j] := List.getElem?_eq_getElem (by omega)
          have d2 : es[j]? = some es[j] := List.getElem?_eq_getElem (by omega)
          rw [List.getD_eq_getElem?_getD, List.getD_eq_getElem?_getD, d1, d2]
          have := iZ d1
          exact ih j _ _ (List.getElem?_eq_getElem gZ) d1 (h2 j _ _ (List.getElem?_eq_getElem g5) d2) r1 r2 (by show A.units + 1 + _ < cLine; omega)
        refine SeqAt.EqAt.of_refs yL ?_
        rw [c0, dR]
        have q := SeqAt.RcAt.tuples p p2 aP at_
        rw [List.size_toArray, List.size_toArray, ← l1, ← l2, jS, gA] at q
        exact q
end
section
variable {X : Cx} {pins : List (Addr × Obj)} {σ : St} {H : Hp} {s : Shared}
theorem Gg (I : Inv X pins σ H s) {x y : V} {d e : Dt} {u v : Value} {A : Around} (hx : dY H x d) (hy : dY H y e) (rx : RelV x u) (ry : RelV y v) (hu : A.units + iq d < cLine) : SeqAt.RcAt A s u v (c0 d e) := by
  have aP : A.units < cLine := by omega
  have lists := fun {a : Addr} {xs : List V} (h : H a = some (.lst xs)) => I.lists h
  have tups := fun {a : Addr} {xs : List V} (h : H a = some (.tup xs)) => I.tups h
  cases hx with
  | aq =>
    cases rx
    cases hy with
    | aq => cases ry; exact SeqAt.RcAt.none_none
    | bl b => cases ry; exact SeqAt.RcAt.none_bool _
    | int b => obtain ⟨t, rfl⟩ := ry; exact SeqAt.RcAt.none_int _ _
    | str b => obtain ⟨t, rfl⟩ := ry; exact SeqAt.RcAt.none_str _ _
    | lst e2 _ _ => cases ry; obtain ⟨_, _, p⟩ := lists e2; exact SeqAt.RcAt.none_list p aP
    | tup e2 _ _ => cases ry; obtain ⟨_, _, p⟩ := tups e2; exact SeqAt.RcAt.none_tuple p aP
  | bl a =>
    cases rx
    cases hy with
    | aq => cases ry; exact SeqAt.RcAt.bool_none _
    | bl b => cases ry; exact SeqAt.RcAt.bool_bool _ _
    | int b => obtain ⟨t, rfl⟩ := ry; exact SeqAt.RcAt.bool_int _ _ _
    | str b => obtain ⟨t, rfl⟩ := ry; exact SeqAt.RcAt.bool_str _ _ _
    | lst e2 _ _ => cases ry; obtain ⟨_, _, p⟩ := lists e2; exact SeqAt.RcAt.bool_list _ p aP
    | tup e2 _ _ => cases ry; obtain ⟨_, _, p⟩ := tups e2; exact SeqAt.RcAt.bool_tuple _ p aP
  | int a =>
    obtain ⟨ta, rfl⟩ := rx
    cases hy with
    | aq => cases ry; exact SeqAt.RcAt.int_none _ _
    | bl b => cases ry; exact SeqAt.RcAt.int_bool _ _ _
    | int b => obtain ⟨t, rfl⟩ := ry; exact SeqAt.RcAt.int_int _ _ _ _
    | str b => obtain ⟨t, rfl⟩ := ry; exact SeqAt.RcAt.int_str _ _ _ _
    | lst e2 _ _ => cases ry; obtain ⟨_, _, p⟩ := lists e2; exact SeqAt.RcAt.int_list _ _ p aP
    | tup e2 _ _ => cases ry; obtain ⟨_, _, p⟩ := tups e2; exact SeqAt.RcAt.int_tuple _ _ p aP
  | str a =>
    obtain ⟨ta, rfl⟩ := rx
    cases hy with
    | aq => cases ry; exact SeqAt.RcAt.str_none _ _
    | bl b => cases ry; exact SeqAt.RcAt.str_bool _ _ _
    | int b => obtain ⟨t, rfl⟩ := ry; exact SeqAt.RcAt.str_int _ _ _ _
    | str b => obtain ⟨t, rfl⟩ := ry; exact SeqAt.RcAt.str_str _ _ _ _
    | lst e2 _ _ => cases ry; obtain ⟨_, _, p⟩ := lists e2; exact SeqAt.RcAt.str_list _ _ p aP
    | tup e2 _ _ => cases ry; obtain ⟨_, _, p⟩ := tups e2; exact SeqAt.RcAt.str_tuple _ _ p aP
  | lst e1 jS h1 =>
    rename_i a xs ds
    have yK : A.units + fq ds + 1 < cLine := by rw [iq] at hu; omega
    cases rx
    obtain ⟨its, rv, p⟩ := lists e1
    cases hy with
    | aq => cases ry; exact SeqAt.RcAt.list_none p aP
    | bl b => cases ry; exact SeqAt.RcAt.list_bool _ p aP
    | int b => obtain ⟨t, rfl⟩ := ry; exact SeqAt.RcAt.list_int _ _ p aP
    | str b => obtain ⟨t, rfl⟩ := ry; exact SeqAt.RcAt.list_str _ _ p aP
    | lst e2 gA h2 =>
      rename_i b ys es
      cases ry
      obtain ⟨b7, gY, p2⟩ := lists e2
      have l1 := rv.length
      have l2 := gY.length
      have at_ : ∀ j (g1 : j < its.toArray.size) (g2 : j < b7.toArray.size), SeqAt.EqAt A.in1 s its.toArray[j] b7.toArray[j] (c0 (ds.getD j .aq) (es.getD j .aq)) := fun j g1 g2 => by
        have gZ : j < xs.length := by rw [l1]; simpa using g1
        have g5 : j < ys.length := by rw [l2]; simpa using g2
        have r1 := bY rv g1
        have r2 := bY gY g2
        rw [List.getD_eq_getElem?_getD, List.getElem?_eq_getElem gZ] at r1
        rw [List.getD_eq_getElem?_getD, List.getElem?_eq_getElem g5] at r2
        have d1 : ds[j]? = some ds[j] := List.getElem?_eq_getElem (by omega)
        have d2 : es[j]? = some es[j] := List.getElem?_eq_getElem (by omega)
        rw [List.getD_eq_getElem?_getD, List.getD_eq_getElem?_getD, d1, d2]
        have := iZ d1
        exact oA I (h1 j _ _ (List.getElem?_eq_getElem gZ) d1) (h2 j _ _ (List.getElem?_eq_getElem g5) d2) r1 r2 (by show A.units + 1 + _ < cLine; omega)
      rw [c0, dR]
      by_cases hsz : ds.length = es.length
      · have q := SeqAt.RcAt.lists p p2 (by simp only [List.size_toArray]; omega) aP at_
        have z : (ds.length == es.length) = true := by simpa using hsz
        rw [z, Bool.and_true, ← hsz, Nat.min_self]
        rw [List.size_toArray, ← l1, jS] at q
        exact q
      · have z : (ds.length == es.length) = false := by simpa using hsz
        rw [z, Bool.and_false]
        exact SeqAt.RcAt.lists_lengths p p2 (by simp only [List.size_toArray]; simpa [bne_iff_ne] using (show its.length ≠ b7.length by omega)) aP
    | tup e2 gA h2 => cases ry; obtain ⟨_, _, p2⟩ := tups e2; exact SeqAt.RcAt.list_tuple p p2 aP
  | tup e1 jS h1 =>
    rename_i a xs ds
    have yK : A.units + fq ds + 1 < cLine := by rw [iq] at hu; omega
    cases rx
    obtain ⟨its, rv, p⟩ := tups e1
    cases hy with
    | aq => cases ry; exact SeqAt.RcAt.tuple_none p aP
    | bl b => cases ry; exact SeqAt.RcAt.tuple_bool _ p aP
    | int b => obtain ⟨t, rfl⟩ := ry; exact SeqAt.RcAt.tuple_int _ _ p aP
    | str b => obtain ⟨t, rfl⟩ := ry; exact SeqAt.RcAt.tuple_str _ _ p aP
    | lst e2 gA h2 => cases ry; obtain ⟨_, _, p2⟩ := lists e2; exact SeqAt.RcAt.tuple_list p p2 aP
    | tup e2 gA h2 =>
      rename_i b ys es
      cases ry
      obtain ⟨b7, gY, p2⟩ := tups e2
      have l1 := rv.length
      have l2 := gY.length
      have at_ : ∀ j (g1 : j < its.toArray.size) (g2 : j < b7.toArray.size), SeqAt.EqAt A.in1 s its.toArray[j] b7.toArray[j] (c0 (ds.getD j .aq) (es.getD j .aq)) := fun j g1 g2 => by
        have gZ : j < xs.length := by rw [l1]; simpa using g1
        have g5 : j < ys.length := by rw [l2]; simpa using g2
        have r1 := bY rv g1
        have r2 := bY gY g2
        rw [List.getD_eq_getElem?_getD, List.getElem?_eq_getElem gZ] at r1
        rw [List.getD_eq_getElem?_getD, List.getElem?_eq_getElem g5] at r2
        have d1 : ds[j]? = some ds[j] := List.getElem?_eq_getElem (by omega)
        have d2 : es[j]? = some es[j] := List.getElem?_eq_getElem (by omega)
        rw [List.getD_eq_getElem?_getD, List.getD_eq_getElem?_getD, d1, d2]
        have := iZ d1
        exact oA I (h1 j _ _ (List.getElem?_eq_getElem gZ) d1) (h2 j _ _ (List.getElem?_eq_getElem g5) d2) r1 r2 (by show A.units + 1 + _ < cLine; omega)
      rw [c0, dR]
      have q := SeqAt.RcAt.tuples p p2 aP at_
      rw [List.size_toArray, List.size_toArray, ← l1, ← l2, jS, gA] at q
      exact q
theorem Gh (I : Inv X pins σ H s) {x y : V} {d e : Dt} {u v : Value} {A : Around} (hx : dY H x d) (hy : dY H y e) (rx : RelV x u) (ry : RelV y v) (hu : A.units + iq d < cLine) : SeqAt.RcNeAt A s u v (!(c0 d e)) := by
  have aP : A.units < cLine := by omega
  have lists := fun {a : Addr} {xs : List V} (h : H a = some (.lst xs)) => I.lists h
  have tups := fun {a : Addr} {xs : List V} (h : H a = some (.tup xs)) => I.tups h
  cases hx with
  | aq =>
    cases rx
    cases hy with
    | aq => cases ry; exact SeqAt.RcNeAt.none_none
    | bl b => cases ry; exact SeqAt.RcNeAt.none_bool _
    | int b => obtain ⟨t, rfl⟩ := ry; exact SeqAt.RcNeAt.none_int _ _
    | str b => obtain ⟨t, rfl⟩ := ry; exact SeqAt.RcNeAt.none_str _ _
    | lst e2 _ _ => cases ry; obtain ⟨_, _, p⟩ := lists e2; exact SeqAt.RcNeAt.none_list p aP
    | tup e2 _ _ => cases ry; obtain ⟨_, _, p⟩ := tups e2; exact SeqAt.RcNeAt.none_tuple p aP
  | bl a =>
    cases rx
    cases hy with
    | aq => cases ry; exact SeqAt.RcNeAt.bool_none _
    | bl b => cases ry; exact SeqAt.RcNeAt.bool_bool _ _
    | int b => obtain ⟨t, rfl⟩ := ry; exact SeqAt.RcNeAt.bool_int _ _ _
    | str b => obtain ⟨t, rfl⟩ := ry; exact SeqAt.RcNeAt.bool_str _ _ _
    | lst e2 _ _ => cases ry; obtain ⟨_, _, p⟩ := lists e2; exact SeqAt.RcNeAt.bool_list _ p aP
    | tup e2 _ _ => cases ry; obtain ⟨_, _, p⟩ := tups e2; exact SeqAt.RcNeAt.bool_tuple _ p aP
  | int a =>
    obtain ⟨ta, rfl⟩ := rx
    cases hy with
    | aq => cases ry; exact SeqAt.RcNeAt.int_none _ _
    | bl b => cases ry; exact SeqAt.RcNeAt.int_bool _ _ _
    | int b => obtain ⟨t, rfl⟩ := ry; exact SeqAt.RcNeAt.int_int _ _ _ _
    | str b => obtain ⟨t, rfl⟩ := ry; exact SeqAt.RcNeAt.int_str _ _ _ _
    | lst e2 _ _ => cases ry; obtain ⟨_, _, p⟩ := lists e2; exact SeqAt.RcNeAt.int_list _ _ p aP
    | tup e2 _ _ => cases ry; obtain ⟨_, _, p⟩ := tups e2; exact SeqAt.RcNeAt.int_tuple _ _ p aP
  | str a =>
    obtain ⟨ta, rfl⟩ := rx
    cases hy with
    | aq => cases ry; exact SeqAt.RcNeAt.str_none _ _
    | bl b => cases ry; exact SeqAt.RcNeAt.str_bool _ _ _
    | int b => obtain ⟨t, rfl⟩ := ry; exact SeqAt.RcNeAt.str_int _ _ _ _
    | str b => obtain ⟨t, rfl⟩ := ry; exact SeqAt.RcNeAt.str_str _ _ _ _
    | lst e2 _ _ => cases ry; obtain ⟨_, _, p⟩ := lists e2; exact SeqAt.RcNeAt.str_list _ _ p aP
    | tup e2 _ _ => cases ry; obtain ⟨_, _, p⟩ := tups e2; exact SeqAt.RcNeAt.str_tuple _ _ p aP
  | lst e1 jS h1 =>
    rename_i a xs ds
    have yK : A.units + fq ds + 1 < cLine := by rw [iq] at hu; omega
    cases rx
    obtain ⟨its, rv, p⟩ := lists e1
    cases hy with
    | aq => cases ry; exact SeqAt.RcNeAt.list_none p aP
    | bl b => cases ry; exact SeqAt.RcNeAt.list_bool _ p aP
    | int b => obtain ⟨t, rfl⟩ := ry; exact SeqAt.RcNeAt.list_int _ _ p aP
    | str b => obtain ⟨t, rfl⟩ := ry; exact SeqAt.RcNeAt.list_str _ _ p aP
    | lst e2 gA h2 =>
      rename_i b ys es
      cases ry
      obtain ⟨b7, gY, p2⟩ := lists e2
      have l1 := rv.length
      have l2 := gY.length
      have at_ : ∀ j (g1 : j < its.toArray.size) (g2 : j < b7.toArray.size), SeqAt.EqAt A.in1 s its.toArray[j] b7.toArray[j] (c0 (ds.getD j .aq) (es.getD j .aq)) := fun j g1 g2 => by
        have gZ : j < xs.length := by rw [l1]; simpa using g1
        have g5 : j < ys.length := by rw [l2]; simpa using g2
        have r1 := bY rv g1
        have r2 := bY gY g2
        rw [List.getD_eq_getElem?_getD, List.getElem?_eq_getElem gZ] at r1
        rw [List.getD_eq_getElem?_getD, List.getElem?_eq_getElem g5] at r2
        have d1 : ds[j]? = some ds[j] := List.getElem?_eq_getElem (by omega)
        have d2 : es[j]? = some es[j] := List.getElem?_eq_getElem (by omega)
        rw [List.getD_eq_getElem?_getD, List.getD_eq_getElem?_getD, d1, d2]
        have := iZ d1
        exact oA I (h1 j _ _ (List.getElem?_eq_getElem gZ) d1) (h2 j _ _ (List.getElem?_eq_getElem g5) d2) r1 r2 (by show A.units + 1 + _ < cLine; omega)
      rw [c0, dR]
      by_cases hsz : ds.length = es.length
      · have q := SeqAt.RcNeAt.lists p p2 (by simp only [List.size_toArray]; omega) aP at_
        have z : (ds.length == es.length) = true := by simpa using hsz
        rw [z, Bool.and_true, ← hsz, Nat.min_self]
        rw [List.size_toArray, ← l1, jS] at q
        exact q
      · have z : (ds.length == es.length) = false := by simpa using hsz
        rw [z, Bool.and_false]
        exact SeqAt.RcNeAt.lists_lengths p p2 (by simp only [List.size_toArray]; simpa [bne_iff_ne] using (show its.length ≠ b7.length by omega)) aP
    | tup e2 gA h2 => cases ry; obtain ⟨_, _, p2⟩ := tups e2; exact SeqAt.RcNeAt.list_tuple p p2 aP
  | tup e1 jS h1 =>
    rename_i a xs ds
    have yK : A.units + fq ds + 1 < cLine := by rw [iq] at hu; omega
    cases rx
    obtain ⟨its, rv, p⟩ := tups e1
    cases hy with
    | aq => cases ry; exact SeqAt.RcNeAt.tuple_none p aP
    | bl b => cases ry; exact SeqAt.RcNeAt.tuple_bool _ p aP
    | int b => obtain ⟨t, rfl⟩ := ry; exact SeqAt.RcNeAt.tuple_int _ _ p aP
    | str b => obtain ⟨t, rfl⟩ := ry; exact SeqAt.RcNeAt.tuple_str _ _ p aP
    | lst e2 gA h2 => cases ry; obtain ⟨_, _, p2⟩ := lists e2; exact SeqAt.RcNeAt.tuple_list p p2 aP
    | tup e2 gA h2 =>
      rename_i b ys es
      cases ry
      obtain ⟨b7, gY, p2⟩ := tups e2
      have l1 := rv.length
      have l2 := gY.length
      have at_ : ∀ j (g1 : j < its.toArray.size) (g2 : j < b7.toArray.size), SeqAt.EqAt A.in1 s its.toArray[j] b7.toArray[j] (c0 (ds.getD j .aq) (es.getD j .aq)) := fun j g1 g2 => by
        have gZ : j < xs.length := by rw [l1]; simpa using g1
        have g5 : j < ys.length := by rw [l2]; simpa using g2
        have r1 := bY rv g1
        have r2 := bY gY g2
        rw [List.getD_eq_getElem?_getD, List.getElem?_eq_getElem gZ] at r1
        rw [List.getD_eq_getElem?_getD, List.getElem?_eq_getElem g5] at r2
        have d1 : ds[j]? = some ds[j] := List.getElem?_eq_getElem (by omega)
        have d2 : es[j]? = some es[j] := List.getElem?_eq_getElem (by omega)
        rw [List.getD_eq_getElem?_getD, List.getD_eq_getElem?_getD, d1, d2]
        have := iZ d1
        exact oA I (h1 j _ _ (List.getElem?_eq_getElem gZ) d1) (h2 j _ _ (List.getElem?_eq_getElem g5) d2) r1 r2 (by show A.units + 1 + _ < cLine; omega)
      rw [c0, dR]
      have q := SeqAt.RcNeAt.tuples p p2 aP at_
      rw [List.size_toArray, List.size_toArray, ← l1, ← l2, jS, gA] at q
      exact q
end
section
variable {X : Cx}
noncomputable def Bc (neg : Bool) : R2 := fun x y H Q => ∃ d e, dY H x d ∧ dY H y e ∧ iq d ≤ 60 ∧ Q (.bl (if neg then !c0 d e else c0 d e)) H
theorem Gi (hu : X.A.units + 64 < cLine) : OpR X (compareOp .Eq) (Bc false) := by
  intro pins s σ H x y v u Q I rx ry h
  obtain ⟨d, e, hx, hy, hd, q⟩ := h
  exact Gg I hx hy rx ry (by omega) X.prog X.w X.xe _ ⟨.bl _, H, I, rfl, q⟩
theorem Gj (hu : X.A.units + 64 < cLine) : OpR X (compareOp .NotEq) (Bc true) := by
  intro pins s σ H x y v u Q I rx ry h
  obtain ⟨d, e, hx, hy, hd, q⟩ := h
  exact Gh I hx hy rx ry (by omega) X.prog X.w X.xe _ ⟨.bl _, H, I, rfl, q⟩
end
theorem yM : bootBuiltins "set" = some (.type "set") := by decide +kernel
theorem lg : bootBuiltins "sorted" = some (.builtin "sorted") := by decide +kernel
section
variable {X : Cx}
noncomputable def yN (K : PySem.W.Frag) (H : Hp) (p : Addr) (ns : List Int) : Prop := bB K H p (ns.map V.int) ∨ ck K H p (ns.map V.int)
noncomputable def sL (P : Program) (w : World) (K : PySem.W.Frag) : List V → Hp → VK → Prop := fun xs H Q => ∃ p ns, xs = [.ref p] ∧ yN K H p ns ∧ ns.length + 1 < scanBound ∧ ∀ l, H l = none → Q (.ref l) (upd H l (fE P w l (cO ns)))
theorem sM {ns : List Int} {us : List Value} (r : Vals (ns.map V.int) us) : ∀ (i : Nat) (v : Value), us.toArray[i]? = some v → ∃ m t, ns[i]? = some m ∧ v = .int m t := fun i v h => by
  have hl := r.length
  have h' : us[i]? = some v := by simpa using h
  have hi : i < us.length := (List.getElem?_eq_some_iff.mp h').1
  have dU : i < ns.length := by rw [List.length_map] at hl; omega
  obtain ⟨u, e, q⟩ := r.get (i := i) (x := V.int ns[i]) (by rw [List.getElem?_map, List.getElem?_eq_getElem dU]; rfl)
  rw [h'] at e; cases e
  obtain ⟨t, rfl⟩ := q
  exact ⟨_, t, List.getElem?_eq_getElem dU, rfl⟩
theorem yO (hc : X.calm = true) : cW X (.type "set") (sL X.prog X.w X.K) := by
  intro pins s σ H xs us Q I r h
  obtain ⟨p, ns, rfl, hq, hb, q⟩ := h
  obtain ⟨u, rfl, rx⟩ := vals1 r
  cases rx
  have fin : ∀ (h' : Heap) (tk : Nat), bF X.prog X.w h' s.heap.objs.size (cO ns) → (∀ b o, s.heap.get? b = some o → h'.get? b = some o) → EP X pins σ Q (.ref s.heap.objs.size) { s with heap := h', toks := tk } := fun h' tk hM hk =>
    ⟨.ref s.heap.objs.size, _, I.laid (t' := tk) hk (Nat.le_refl _) (pB hM), rfl, q _ (I.hok.fresh (Nat.le_refl _))⟩
  have hh := I.ok.hd hc
  rcases hq with hq | hq
  · obtain ⟨its, rv, pl, hz⟩ := I.list hq
    have hl : its.toArray.size = ns.length := by rw [List.size_toArray, ← rv.length, List.length_map]
    obtain ⟨o, ho, cP, n, hd⟩ := pl.isList
    refine k7 (T := "list") (vs := ns) (itob := { cls := .type "list_iterator", data := .fields #[.ref p, .int 0 0] }) (Pv := fun i v => its.toArray[i]? = some v) (St := fun I i h => h.IsListIter I p i ∧ h.IsList p its.toArray) hh ⟨o, ho⟩ (fun s1 k => ⟨o, k o ho, cP⟩) F.sub_list_set F.sub_list_frozenset (by decide)
      (fun A' s1 Q' E' k yP => wpAny_pyIter_list ⟨o, k o ho, cP, n, hd⟩ yP) (fun A' I' hA eE => hl ▸ Walks.list hA I' p eE its.toArray) (fun h1 k => ⟨⟨_, Heap.get?_push_size _ rfl, rfl, rfl⟩, ⟨o, Heap.get?_push_of_some _ (k o ho), cP, n, hd⟩⟩) (sM rv) hb fin
  · obtain ⟨its, rv, pl, hz⟩ := I.tuple hq
    have hl : its.toArray.size = ns.length := by rw [List.size_toArray, ← rv.length, List.length_map]
    obtain ⟨o, ho, cP, n, hd⟩ := pl
    refine k7 (T := "tuple") (vs := ns) (itob := { cls := .type "tuple_iterator", data := .fields #[.ref p, .int 0 0] }) (Pv := fun i v => its.toArray[i]? = some v) (St := fun I i h => h.IsTupleIter I p i ∧ h.IsTuple p its.toArray) hh ⟨o, ho⟩ (fun s1 k => ⟨o, k o ho, cP⟩) sub_tuple_set pA (by decide)
      (fun A' s1 Q' E' k yP => wpAny_pyIter_tuple ⟨o, k o ho, cP, n, hd⟩ yP) (fun A' I' hA eE => hl ▸ Walks.tuple hA I' p eE its.toArray) (fun h1 k => ⟨⟨_, Heap.get?_push_size _ rfl, rfl, rfl⟩, ⟨o, Heap.get?_push_of_some _ (k o ho), cP, n, hd⟩⟩) (sM rv) hb fin
noncomputable def u6 (P : Program) (w : World) (K : PySem.W.Frag) : List V → Hp → VK → Prop := fun xs H Q => ∃ p ns, xs = [.ref p] ∧ (H p = some (fE P w p ns) ∨ yN K H p ns) ∧ ns.length < 64 ∧ ∀ l, H l = none → Q (.ref l) (upd H l (.lst ((sortI ns).map V.int)))
theorem sN (hc : X.calm = true) : cW X (.builtin "sorted") (u6 X.prog X.w X.K) := by
  intro pins s σ H xs us Q I r h
  obtain ⟨p, ns, rfl, hq, Gb, q⟩ := h
  obtain ⟨u, rfl, rx⟩ := vals1 r
  cases rx
  have hh := I.ok.hd hc
  refine wo (ns := ns) (fun QL Gk => ?_) Gb (fun h1 h' d' tk us e hI k1 k2 he => ?_)
  · rcases hq with hq | hq | hq
    · exact uq (by simp [hh]) (u5 I hq) (by have : sizeLine = 16777216 := sizeLine_eq; omega) Gk
    · obtain ⟨its, rv, pl, hz⟩ := I.list hq
      have hl := rv.length
      obtain ⟨o, ho, cP, n, hd⟩ := pl.isList
      exact mR ho cP hd (.inl rfl) (fun h' k => Gk its ns h' s.drawn s.toks (wm rv) (.refl _) k) (by omega)
    · obtain ⟨its, rv, pl, hz⟩ := I.tuple hq
      have hl := rv.length
      obtain ⟨o, ho, cP, n, hd⟩ := pl
      exact mR ho cP hd (.inr rfl) (fun h' k => Gk its ns h' s.drawn s.toks (wm rv) (.refl _) k) (by omega)
  · have I1 : Inv X pins σ H { s with heap := h1, drawn := d' } := (I.kept (t' := s.toks) k1).m8 ⟨rfl, rfl, I.bare.self⟩
    have hsz : sizeLine = 16777216 := sizeLine_eq
    have ob : ObjOk X.prog X.w (upd H h1.objs.size (.lst ((sortI ns).map V.int))) h' h1.objs.size (.lst ((sortI ns).map V.int)) := ⟨by rw [List.length_map, (sortI_perm ns).length_eq]; omega, us, e, la hI, he⟩
    exact ⟨.ref h1.objs.size, _, I1.laid (t' := tk) k2 (Nat.le_refl _) ob, rfl, q _ (I1.hok.fresh (Nat.le_refl _))⟩
end
noncomputable def dD (n : Nat) : List Int := (List.range n).map fun i => ((i : Nat) : Int)
section
variable {X : Cx}
theorem wu {K : PySem.W.Frag} (h : X.K = K) (hc : X.calm = true) : cW X (.type "set") (sL X.prog X.w K) := h ▸ yO hc
end
theorem ObjOk.there {P : Program} {w : World} {H : Hp} {h : Heap} {a : Addr} {o : HO} (x : ObjOk P w H h a o) : ∃ u, h.get? a = some u := by
  cases o with
  | lst xs => obtain ⟨_, _, _, _, e⟩ := x; exact ⟨_, e⟩
  | tup xs => obtain ⟨_, _, _, ob, e, _⟩ := x; exact ⟨_, e⟩
  | dK au => obtain ⟨_, _, _, _, o, _, _, e, _⟩ := x; exact ⟨_, e⟩
  | dT au => obtain ⟨_, _, _, _, o, _, _, e, _⟩ := x; exact ⟨_, e⟩
  | set S n => obtain ⟨o, _, _, _, e, _⟩ := x; exact ⟨_, e⟩
  | ins C dx fs => obtain ⟨_, _, _, e, _⟩ := x; exact ⟨_, e⟩
  | own y => obtain ⟨_, e⟩ := x; exact ⟨_, e⟩
  | xd fs => obtain ⟨_, ⟨_, _, _, e, _⟩, _⟩ := x; exact ⟨_, e⟩
  | rng lo hi => obtain ⟨_, _, _, e⟩ := x; exact ⟨_, e⟩
  | bA ob u => obtain ⟨e, _⟩ := x; exact ⟨_, e⟩
  | cz ps => exact ⟨_, x⟩
  | lam ps => exact ⟨_, x⟩
  | met f y => exact ⟨_, x⟩
  | ext φ => obtain ⟨_, ⟨_, e⟩, _⟩ := x; exact ⟨_, e⟩
noncomputable def gE (P : Program) (w : World) : f9 := fun outer H s E e s' => ∃ (a C t : Addr) (B : Heap) (H' : Hp), e = .ref a ∧ s'.os = s.os ∧ Gn s.gens.size s'.gens ∧ Heap.FlyingW B outer a (.ref C) (.ref t) s'.heap ∧
  (∀ b o, s.heap.get? b = some o → b ∉ dN outer → ∃ o', B.get? b = some o') ∧ (∀ b u, H' b = some u → ∃ o', B.get? b = some o') ∧ Un (dN outer) [] H H' s.heap s'.heap ∧ cc P w H' s'.heap ∧ E (.ref C) none H'
section
variable {X : Cx} {pins : List (Addr × Obj)} {σ : St} {H H1 : Hp} {s s1 : Shared} {B h' : Heap}
theorem Inv.lh (I : Inv X pins σ H s) {b : Addr} (h1 : b ≠ X.env.locals) (h2 : b ∉ X.fs) : b ∉ dN X.stack := fun z => by
  rcases List.mem_cons.mp (I.eB b z) with q | q
  · exact h1 q
  · exact h2 q
theorem Inv.rF (I : Inv X pins σ H s) {b : Addr} {o : Obj} (e : X.s₀.heap.get? b = some o) : b ≠ X.env.locals := fun z => by
  have l := Heap.lt_size e
  have := I.ok.above
  rw [← z] at this
  exact absurd l (Nat.not_lt.mpr this)
theorem Inv.Kf (I1 : Inv X pins σ H1 s1) (I : Inv X pins σ H s) (c1 : ∀ b o, s1.heap.get? b = some o → b ∉ dN X.stack → ∃ o', B.get? b = some o') (c2 : ∀ b u, H b = some u → ∃ o', B.get? b = some o')
    (k : B.StaysIn s.heap) (k' : B.StaysIn h') (up : s.heap.UpToSlots h') : Inv X pins σ H { s with heap := h' } := by
  have same : ∀ b o', (∃ o2, B.get? b = some o2) → s.heap.get? b = some o' → h'.get? b = some o' := fun b o' ⟨o2, e⟩ q => by
    have z := k b o2 e
    rw [q] at z
    cases z
    exact k' b _ e
  refine ⟨I.ok, I.os, I.bare, ⟨fun b o q n hb hx => ?_, fun b o q n hb hx => ?_, I.base.free, fun b o q hx => ?_, I.base.tups, I.base.frzs, I.base.tbls⟩, ?_, fun x c e => ?_, I.free, I.freeC, fun p hp => ?_, fun a o e => ?_, I.len⟩
  · exact same b o (c1 b o (I1.base.keep b o q n hb hx) (I.lh (I.rF q) hb)) (I.base.keep b o q n hb hx)
  · obtain ⟨sl, e⟩ := I.base.slot b o q n hb hx
    obtain ⟨_, o2, e2, nf⟩ := I.funs.mem hb
    rw [e] at e2
    cases e2
    obtain ⟨MT, e4⟩ := up b { o with slots := sl } e nf
    exact ⟨MT, e4⟩
  · obtain ⟨o', e⟩ := I.base.there b o q hx
    by_cases hb : b ∈ X.fs
    · obtain ⟨_, o2, e2, nf⟩ := I.funs.mem hb
      obtain ⟨sl, e3⟩ := up b _ e2 nf
      exact ⟨_, e3⟩
    · obtain ⟨o1, q1⟩ := I1.base.there b o q hx
      exact ⟨o', same b o' (c1 b o1 q1 (I.lh (I.rF q) hb)) e⟩
  · obtain ⟨m, hn, hl⟩ := I.loc
    refine ⟨m, up.ns hn, fun i x v a b c => ?_⟩
    obtain ⟨u, r, l⟩ := hl i x v a b c
    refine ⟨u, r, ?_⟩
    rcases l with l | ⟨kd, c, ec, o, ho, hd⟩
    · exact .inl l
    · obtain ⟨sl, e⟩ := up c o ho fun vs z => by rw [hd] at z; cases z
      exact .inr ⟨kd, c, ec, _, e, hd⟩
  · obtain ⟨v, o, ho, hd⟩ := I.cell x c e
    obtain ⟨sl, e⟩ := up c o ho fun vs z => by rw [hd] at z; cases z
    exact ⟨v, _, e, hd⟩
  · obtain ⟨p1, p2, p3, p4, p5⟩ := I.pin p hp
    exact ⟨same p.1 p.2 (c1 p.1 p.2 (I1.pin p hp).1 (I.lh p3 p4)) p1, p2, p3, p4, p5⟩
  · refine (I.hok a o e).bO (fun b u hb q => ?_) (fun _ q => q) fun _ _ q => q
    rcases hb with z | z
    · exact same b u (c2 b o (by rw [z]; exact e)) q
    · exact same b u (c2 b _ z) q
end
section
variable {P : Program} {w : World} {K : PySem.W.Frag} {mg : Str → Option Value} {base : Heap} {N : List Str} {qual : Str} {scope : Scope} {f : Addr} {cd : Value} {A : Around} {outer : List Env} {s0 : Shared} {H0 : Hp} {E : XK}
theorem Cm : Passes (gE P w) (fm (gE P w) P w K mg base N qual scope f cd A outer s0 H0 E) E := by
  intro pins σ H s e s' I h
  obtain ⟨a, C, t, B, H', rfl, os, gn, fl, c1, c2, un, hok, q⟩ := h
  have I' := I.nQ (ch := []) os un hok gn (fun b z => absurd z (by simp))
  refine wpAny_leaves_onW (cls := .ref C) (a0 := .ref t) I.ok.frames rfl fl fun h' Kg up => ?_
  have I2 := I.Kf I' c1 c2 fl.1 Kg.1 up
  refine ⟨a, C, t, B, H', rfl, I2.os, I2.bare, Kg, fun b o e n => ?_, c2, I2.base, I2.hok, q⟩
  obtain ⟨o1, e1⟩ := I.base.there b o e (fun z => absurd (show b ∈ ([] : List Addr) from z) (by simp))
  exact c1 b o1 e1 (I.lh (I.rF e) n)
noncomputable def Raises (X : Cx) (E : XK) : Prop := ∀ (pins : List (Addr × Obj)) (σ : St) (H : Hp) (s : Shared) (C : Addr) (h' : Heap) (a : Addr) (vs : List Value), Inv X pins σ H s → Heap.MadeExcOf s.heap h' a (.ref C) vs → E (.ref C) none H → X.xe (.ref a) { s with heap := h' }
theorem yQ : Raises (fm (gE P w) P w K mg base N qual scope f cd A outer s0 H0 E) E := by
  intro pins σ H s C h' a vs I hx q
  have c1 : ∀ b o, s.heap.get? b = some o → b ∉ dN (fm (gE P w) P w K mg base N qual scope f cd A outer s0 H0 E).stack → ∃ o', (PySem.W.hideAll s.heap (dN (fm (gE P w) P w K mg base N qual scope f cd A outer s0 H0 E).stack)).get? b = some o' :=
    fun b o e n => ⟨o, PySem.W.hideAll_get _ e n⟩
  have c2 : ∀ b u, H b = some u → ∃ o', (PySem.W.hideAll s.heap (dN (fm (gE P w) P w K mg base N qual scope f cd A outer s0 H0 E).stack)).get? b = some o' := fun b u hu => by
    obtain ⟨o, e⟩ := (I.hok b u hu).there
    exact c1 b o e fun z => by rw [I.jM b z] at hu; cases hu
  have st : (PySem.W.hideAll s.heap (dN (fm (gE P w) P w K mg base N qual scope f cd A outer s0 H0 E).stack)).StaysIn s.heap := fun b o e => PySem.W.of_hideAll _ e
  refine wpAny_leaves_madeW (cls := .ref C) I.ok.frames rfl st (PySem.W.funFrames_hide I.stack fun env he b hb => List.mem_filterMap.mpr ⟨env, he, hb⟩) hx fun O4 t fl _ _ up => ?_
  have I2 := I.Kf I c1 c2 st fl.1 ((Heap.UpToSlots.of_keeps hx.keeps).trans up)
  refine ⟨a, C, t, _, H, rfl, I2.os, I2.bare, fl, fun b o e n => ?_, c2, I2.base, I2.hok, q⟩
  obtain ⟨o1, e1⟩ := I.base.there b o e (fun z => absurd (show b ∈ ([] : List Addr) from z) (by simp))
  exact c1 b o1 e1 (I.lh (I.rF e) n)
end
theorem DE {K : PySem.W.Frag} {h : Heap} {C : Addr} {qB : List Value} {newId : String} (X : K.In h) (q : PySem.W.excIn K C qB newId = true) :
    ∃ bm Nn nm qn bs hd sn sub ab col dd k0 k1 k2 k3 k5 mN, h.get? C = some (excClassObj nm qn C Nn bs bm hd sn sub ab col dd k0 k1 k2 k3 k5 newId) ∧ h.Ns Nn mN ∧ mN "__init__" = none ∧ OwnTail h qB bm := by
  unfold PySem.W.excIn at q
  split at q
  case h_2 => cases q
  case h_1 dd cd sl ho =>
    split at q
    case h_2 => cases q
    case h_1 C' bm k0 k1 k2 k3 n k5 hm hs =>
      rw [Bool.and_eq_true, Bool.and_eq_true, Bool.and_eq_true, Bool.and_eq_true, Bool.and_eq_true] at q
      obtain ⟨⟨⟨⟨⟨q1, q2⟩, q3⟩, q4⟩, q5⟩, q6⟩ := q
      have e1 : C' = C := beq_iff_eq.mp q1
      have e2 : n = newId := beq_iff_eq.mp q2
      have e3 : cd.hasDel = false := by simpa using q3
      subst e1 e2
      obtain ⟨nm, bs, mro, ns, qn, hd, sn, sub, ab, col, del⟩ := cd
      dsimp only at hm e3 q5 q6
      subst hm e3
      have es : sl = #[k0, k1, k2, k3, some (.builtin n), k5] := by
        cases sl with
        | mk l => exact congrArg Array.mk hs
      subst es
      exact ⟨bm, ns, nm, qn, bs, hd, sn, sub, ab, col, dd, k0, k1, k2, k3, k5, _, X _ _ ho, Heap.Ns.of_isNs (PySem.W.isNs_of_in X q5), PySem.W.nsMap_none_of_in X q5 (beq_iff_eq.mp q6), PySem.W.tail_of_in X q4⟩
section
variable {X : Cx} {x : Str} {C : Addr} {jI : Expr} {rest : List Expr} {t : TA} {qB : List Value} {B newId sO : String} {E : XK} {np aY pos : Pos}
noncomputable def Gm (C : Addr) (E : XK) (t : TA) : TS := fun _ σ H => t σ H fun vs H1 => vs.length ≤ sizeLine ∧ E (.ref C) none H1
theorem Bd (O : PySem.W.excIn X.K C qB newId = true) (FB : ExcBaseFacts B newId sO qB) (hc : X.calm = true) (hR : Raises X E) (hg : Gl X x) (hm : X.mg x = some (.ref C)) (ha : PA X (jI :: rest) t)
    (eC : (x == ("__debug__" : Str)) = false := by decide) (he : starEach (jI :: rest) X.env = (false, eval jI X.env) :: starEach rest X.env := by rfl) (bQ : (backTo aY (starEach rest X.env)).any (·.1) = false := by rfl) :
    PS X (.Raise (some (.Call (.Name x np) (jI :: rest) [] aY)) none pos) (Gm C E t) := by
  refine ⟨fun pins s σ H D I h => ?_⟩
  obtain ⟨bm, Nn, nm, qn, bs, hd, sn, sub, ab, col, dd, k0, k1, k2, k3, k5, mN, hC, hN, MU, T⟩ := DE I.ok.mod.kin O
  have hp : (backTo aY (starEach (jI :: rest) X.env)).any (·.1) = false := by
    rw [he]
    exact bQ
  have jw := ha aY pins s σ H _ I h
  rw [he] at jw
  refine wpAny_Raise_call_subT (C := C) (nm := nm) (q := qn) (N := Nn) (bs := bs) (bm := bm) (hdct := hd) (sn := sn) (sub := sub) (ab := ab) (col := col) (dd := dd) (k0 := k0) (k1 := k1) (k2 := k2) (k3 := k3) (k5 := k5) FB (mN := mN)
    (T.hasType FB.hasBase) (I.ok.hd hc) hp MU (l0 I hg hm ⟨rfl, ?_⟩ eC)
  rw [he]
  refine Calls.evalArgs_plain (thn jw fun us s2 ⟨vs, H2, I2, r, l, q⟩ => ?_)
  exact ⟨rfl, by rw [← r.length]; exact l, I2.bk _ _ hC, hN.keeps I2.bk, T.keeps I2.bk, fun h' a hx => hR pins σ H2 s2 C h' a us I2 hx q⟩
end
end L2
namespace L2
open PySem PySem.Spec PyProof.Rows PySem.W Builtin Builtin.ObjectAttr Builtin.Getset_descriptor
noncomputable def ExcAt (C a : Addr) (h : Heap) : Prop := ∃ o vs, h.get? a = some o ∧ o.cls = .ref C ∧ o.data = .fields vs
noncomputable def LC (C a : Addr) : HO := .ext (ExcAt C a)
structure Gp (K : Frag) (C : Addr) : Prop where
  cls : (clsIn K C).isSome = true
  ga : findIn K (.ref C) "__getattribute__" = some (some (.builtin "BaseException.__getattribute__"))
  gt : findIn K (.ref C) "__getattr__" = some none
  cl : findIn K (.ref C) "__class__" = some (some (.builtin "object.__class__"))
  gg : specialIn K (.builtin "object.__class__") "__get__" = some (some (.builtin "getset_descriptor.__get__"))
  tk : takesIn K (.builtin "object.__class__") = some true
  ob : mroIn K C (.type "object") = some true
  be : mroIn K C (.type "BaseException") = some true
end L2
namespace L2
open PySem PySem.Spec PyProof.Rows PySem.W
section
variable {X : Cx} {pins pins' : List (Addr × Obj)} {σ : St} {H : Hp} {s : Shared} {T : Value → Shared → Prop}
theorem Inv.IV {a : Addr} {o : HO} (I : Inv X pins σ H s) (n0 : H a = none) (n1 : X.s₀.heap.get? a = none) (n2 : a ≠ X.env.locals) (n3 : ∀ x c, X.env.cells.lookup x = some c → c ≠ a) (n4 : ∀ p ∈ X.pn ++ pins, p.1 ≠ a)
    (ob : ObjOk X.prog X.w (upd H a o) s.heap a o) : Inv X pins σ (upd H a o) s := by
  have un : ∀ b u, H b = some u → upd H a o b = some u := fun b u e => by rw [ae (aU e n0)]; exact e
  refine ⟨I.ok, I.os, I.bare, ⟨I.base.keep, I.base.slot, fun b u q n hx => ?_, I.base.there, fun b xs e => un _ _ (I.base.tups b xs e), fun b u v e => un _ _ (I.base.frzs b u v e), fun b ps e => ?_⟩, I.loc, I.cell, ?_, fun x c e => ?_, fun p hp => ?_, fun b u e => ?_, I.len⟩
  · rw [ae (fun z => by rw [z, n1] at q; cases q)]
    exact I.base.free b u q n hx
  · obtain ⟨more, z⟩ := I.base.tbls b ps e
    exact ⟨more, un _ _ z⟩
  · rw [ae (Ne.symm n2)]
    exact I.free
  · rw [ae (n3 x c e)]
    exact I.freeC x c e
  · obtain ⟨p1, p2, p3⟩ := I.pin p hp
    exact ⟨p1, by rw [ae (n4 p hp)]; exact p2, p3⟩
  · by_cases hb : b = a
    · subst hb
      rw [ay] at e
      cases e
      exact ob
    · rw [ae hb] at e
      exact (I.hok b u e).bO (fun _ _ _ q => q) (fun c q => un _ _ q) fun c xs q => un _ _ q
end
structure yR (K : Frag) (C0 : Addr) : Prop where
  ty : typeIn K (.ref C0) = some (.type "type")
  be : subIn K (.ref C0) (.type "BaseException") = some true
  it : (clsIn K C0).isSome = true
theorem IW {P : Program} {w : World} {X : Cx} : Passes (gE P w) X (fun _ _ _ => False) := fun _ _ _ _ _ _ _ h => by
  obtain ⟨_, _, _, _, _, _, _, _, _, _, _, _, _, q⟩ := h
  exact q.elim
theorem qk.yu {P : Program} {w : World} {K : PySem.W.Frag} {mg : Str → Option Value} {base : Heap} {x qual : Str} {st : Stmt} {f : Addr} {fd : FuncData} {N ps : List Str} {k : Nat} {sp : Sp} (F : qk K x qual st f fd) (S : aQ N ps (ai st)) (len : ∀ vs H Q E, sp vs H Q E → vs.length = ps.length)
    (j7 : ∀ (A : Around) (outer : List Env) (s : Shared) (H : Hp) (vs : List V) (Q : VK) (E : XK), bE k (A.deeper (envOfC qual (ai st) s.heap.objs.size f fd.code)) → sp vs H Q E →
      ∃ t, fQ (fm (gE P w) P w K mg base N qual (ai st) f fd.code A outer s H E) (bz st) t ∧ t { nx := fun _ H' => Q .aq H', rt := Q } (start N vs) H) : FnOk P w K mg base (gE P w) (k + 1) f fd ps sp := by
  obtain ⟨oc, od, kV, doc, pm, an, cm, ct, jt, rfl, lk, dA⟩ := F.ex
  exact vQ lk dA S len fun A outer s H vs Q E hr ju => j7 A outer s H vs Q E hr ju
noncomputable def Kh : List Value := [.type "ValueError", .type "Exception", .type "BaseException", .type "object"]
noncomputable def Be (K : Frag) (C0 C : Addr) : Bool := excIn K C Kh "ValueError.__new__" && (clsIn K C).isSome && findIn K (.ref C) "__getattribute__" == some (some (.builtin "BaseException.__getattribute__")) && findIn K (.ref C) "__getattr__" == some none &&
  findIn K (.ref C) "__class__" == some (some (.builtin "object.__class__")) && mroIn K C (.type "object") == some true && mroIn K C (.type "BaseException") == some true && subIn K (.ref C) (.ref C0) == some true && kitOne K (.ref C) (.type "ValueError") == some true
noncomputable def wx (K : Frag) (C0 : Addr) (cs : List Addr) : Bool := cs.all (Be K C0) && (cs.all fun C => cs.all fun D => kitOne K (.ref C) (.ref D) == some (decide (C = D))) && specialIn K (.builtin "object.__class__") "__get__" == some (some (.builtin "getset_descriptor.__get__")) && takesIn K (.builtin "object.__class__") == some true &&
  typeIn K (.ref C0) == some (.type "type") && subIn K (.ref C0) (.type "BaseException") == some true && (clsIn K C0).isSome
structure Bf (K : Frag) (C0 : Addr) (cs : List Addr) : Prop where
  ex : ∀ C ∈ cs, excIn K C Kh "ValueError.__new__" = true
  cl : ∀ C ∈ cs, Gp K C
  sub : ∀ C ∈ cs, subIn K (.ref C) (.ref C0) = some true
  one : ∀ C ∈ cs, ∀ D ∈ cs, kitOne K (.ref C) (.ref D) = some (decide (C = D))
  val : ∀ C ∈ cs, kitOne K (.ref C) (.type "ValueError") = some true
  top : yR K C0
theorem DF {K : Frag} {C0 : Addr} {cs : List Addr} (h : wx K C0 cs = true) : Bf K C0 cs := by
  unfold wx at h
  simp only [Bool.and_eq_true] at h
  obtain ⟨⟨⟨⟨⟨⟨h1, h2⟩, h3⟩, h4⟩, h5⟩, h6⟩, h7⟩ := h
  have all : ∀ C ∈ cs, Be K C0 C = true := List.all_eq_true.mp h1
  have part : ∀ C ∈ cs, _ := fun C hC => by
    have z := all C hC
    unfold Be at z
    simp only [Bool.and_eq_true] at z
    exact z
  refine ⟨fun C hC => (part C hC).1.1.1.1.1.1.1.1, fun C hC => ?_, fun C hC => beq_iff_eq.mp (part C hC).1.2, fun C hC D hD => beq_iff_eq.mp (List.all_eq_true.mp (List.all_eq_true.mp h2 C hC) D hD), fun C hC => beq_iff_eq.mp (part C hC).2, ⟨beq_iff_eq.mp h5, beq_iff_eq.mp h6, h7⟩⟩
  obtain ⟨⟨⟨⟨⟨⟨⟨⟨_, p1⟩, p2⟩, p3⟩, p4⟩, p5⟩, p6⟩, _⟩, _⟩ := part C hC
  exact ⟨p1, beq_iff_eq.mp p2, beq_iff_eq.mp p3, beq_iff_eq.mp p4, beq_iff_eq.mp h3, beq_iff_eq.mp h4, beq_iff_eq.mp p5, beq_iff_eq.mp p6⟩
end L2
namespace L2
open PySem PySem.Spec PyProof.Rows Builtin.SmallTypes
noncomputable def fG (k : Bool) (h : Heap) (it a : Addr) (i : Nat) : Prop := if k = true then h.IsListIter it a i else h.IsTupleIter it a i
noncomputable def ni (k : Bool) (h : Heap) (a : Addr) (items : Array Value) : Prop := if k = true then h.IsList a items else h.IsTuple a items
theorem fG.at {k : Bool} {h h' : Heap} {it a : Addr} {i : Nat} (x : fG k h it a i) (q : ∀ o, h.get? it = some o → h'.get? it = some o) : fG k h' it a i := by
  cases k with
  | true => exact Heap.IsListIter.at (h := h) x q
  | false => exact Heap.IsTupleIter.at (h := h) x q
theorem fG.obj {k : Bool} {h : Heap} {it a : Addr} {i : Nat} (x : fG k h it a i) : ∃ o, h.get? it = some o ∧ ∃ vs, o.data = .fields vs := by
  cases k with
  | true => obtain ⟨o, e, _, d⟩ := (show h.IsListIter it a i from x); exact ⟨o, e, _, d⟩
  | false => obtain ⟨o, e, _, d⟩ := (show h.IsTupleIter it a i from x); exact ⟨o, e, _, d⟩
section
variable {prog : Program} {w : World} {A : Around} {E : Value → Shared → Prop} {s : Shared} {it a : Addr} {i : Nat} {items : Array Value} {x : Value} {k : Bool}
theorem Bg {Q : Option Value → Shared → Prop} (hit : s.heap.IsTupleIter it a i) (ha : s.heap.IsTuple a items) (hx : items[i]? = some x)
    (hQ : ∀ h', h'.IsTupleIter it a (i + 1) → Heap.SameBut it s.heap h' → Q (some x) { s with heap := h' }) : wpAny (model prog w) A (callSpecial? (.ref it) "__next__") Q E s := by
  obtain ⟨o, ho, hc, hd⟩ := id hit
  obtain ⟨ol, sE, _, nl, Gq⟩ := ha
  have sl := F.slot_tuple_iterator_next
  refine wpAny_callSpecial?_slot (name := Str.ofString "__next__") hit.typeIs sl (wpAny_call_entry sl hit.typeIs F.entry_tuple_iterator_next ?_ (F.args_tuple_iterator_next_1 _))
  have nn : ¬ ((Value.ref a == Value.none) = true) := Bool.false_ne_true
  refine wpAny_bind (m := field (.ref it) 0) (wpAny_field ho hd (x := .ref a) rfl ?_)
  rw [if_neg nn]
  refine wpAny_bind (m := field (.ref it) 1) (wpAny_field ho hd (x := .int i 0) rfl (wpAny_bind (m := seqItems? (.ref a)) (wpAny_seqItems sE Gq ?_)))
  simp only [Int.toNat_natCast, hx]
  refine wpAny_bind (m := setField _ _ _) (wpAny_setField ho hd (by simp) (wpAny_pure ⟨x, rfl, hQ _ ?_ (Heap.SameBut.update ..)⟩))
  refine ⟨_, Heap.get?_update_self _ ho (Obj.isFreed_of_fields (Obj.data_mapFields hd _)), (Obj.cls_mapFields ..).trans hc, ?_⟩
  rw [Obj.data_mapFields hd]
  simp [rawInt]
theorem Bh {Q : Option Value → Shared → Prop} (hh : A.handled = none) (hit : s.heap.IsTupleIter it a i) (ha : s.heap.IsTuple a items) (hx : items[i]? = none)
    (hE : ∀ h' e, Heap.ExtBut it s.heap h' → (∃ o, h'.get? e = some o ∧ o.cls = .type "StopIteration") → E (.ref e) { s with heap := h' }) : wpAny (model prog w) A (callSpecial? (.ref it) "__next__") Q E s := by
  obtain ⟨o, ho, hc, hd⟩ := id hit
  obtain ⟨ol, sE, _, nl, Gq⟩ := ha
  have sl := F.slot_tuple_iterator_next
  refine wpAny_callSpecial?_slot (name := Str.ofString "__next__") hit.typeIs sl (wpAny_call_entry sl hit.typeIs F.entry_tuple_iterator_next ?_ (F.args_tuple_iterator_next_1 _))
  have nn : ¬ ((Value.ref a == Value.none) = true) := Bool.false_ne_true
  refine wpAny_bind (m := field (.ref it) 0) (wpAny_field ho hd (x := .ref a) rfl ?_)
  rw [if_neg nn]
  refine wpAny_bind (m := field (.ref it) 1) (wpAny_field ho hd (x := .int i 0) rfl (wpAny_bind (m := seqItems? (.ref a)) (wpAny_seqItems sE Gq ?_)))
  simp only [Int.toNat_natCast, hx]
  refine wpAny_bind (wpAny_rule (wpAny_bind (m := setField _ _ _) (wpAny_setField ho hd (by simp) ?_)))
  refine wpAny_bind (m := newExc (.type "StopIteration") []) ?_
  unfold newExc newTuple
  refine wpAny_bind (wpAny_newObj_type ?_ (by size_fits))
  refine wpAny_bind (m := firstArgMember _ _) (wpAny_of_eq (a := Value.none) (by first | rfl | (simp only [firstArgMember]; rfl)) (wpAny_newObj_type ?_ (by size_fits)))
  refine wpAny_raiseNew_none hh ?_
  exact hE _ _ (((Heap.SameBut.update ..).extBut.push _).push _) ⟨_, Heap.get?_push_size _ rfl, rfl⟩
theorem DG {Q : Value → Shared → Prop} (hit : fG k s.heap it a i) (ha : ni k s.heap a items) (hx : items[i]? = some x)
    (hQ : ∀ h', fG k h' it a (i + 1) → Heap.SameBut it s.heap h' → Q x { s with heap := h' }) : wpAny (model prog w) A (nextOf (.ref it)) Q E s := by
  cases k with
  | true => exact wpAny_nextOf_list_item hit ha hx hQ
  | false =>
    unfold nextOf
    exact wpAny_bind (Bg hit ha hx fun h' a b => wpAny_pure (hQ h' a b))
theorem DH {Q : Value → Shared → Prop} (hh : A.handled = none) (hit : fG k s.heap it a i) (ha : ni k s.heap a items) (hx : items[i]? = none)
    (hE : ∀ h' e, Heap.ExtBut it s.heap h' → (∃ o, h'.get? e = some o ∧ o.cls = .type "StopIteration") → E (.ref e) { s with heap := h' }) : wpAny (model prog w) A (nextOf (.ref it)) Q E s := by
  cases k with
  | true => exact wpAny_nextOf_list_end hh hit ha hx hE
  | false =>
    unfold nextOf
    exact wpAny_bind (Bh hh hit ha hx hE)
end
section
variable {prog : Program} {w : World} {A : Around} {E : Value → Shared → Prop} {s : Shared} {e it a : Addr} {i : Nat} {items : Array Value} {x old : Value} {k : Bool}
theorem yS {Q : Value → Shared → Prop} (he : IsEnum s.heap e it i old) (eE : e ≠ it) (hit : fG k s.heap it a i) (ha : ni k s.heap a items) (hx : items[i]? = some x)
    (hQ : ∀ h', IsEnumOut h' e it ((i : Int) + 1) x s.heap.objs.size → fG k h' it a (i + 1) → h'.get? s.heap.objs.size = some { cls := .type "tuple", data := .seq #[.int i s.toks, x] } →
      (∀ b o, b ≠ e → b ≠ it → s.heap.get? b = some o → h'.get? b = some o) → Q (.ref s.heap.objs.size) { s with heap := h', toks := s.toks + 1 }) :
    wpAny (model prog w) A (Builtin.«enumerate.__next__» ⟨[.ref e], []⟩) (fun fin s' => ∃ v, fin = .done (.ret v) ∧ Q v s') E s := by
  obtain ⟨hp, g, d, tk, os⟩ := s
  refine wpAny_bind (m := field (.ref e) 2) (wpAny_field he rfl (x := .ref it) rfl (wpAny_bind (m := nextOf (.ref it)) (DG hit ha hx fun h1 Gr (Gs : Heap.SameBut it hp h1) => ?_)))
  have e1 : IsEnum h1 e it i old := (Gs.2 e eE).trans he
  refine wpAny_bind (m := field (.ref e) 3) (wpAny_field e1 rfl (x := rawInt i) rfl (wpAny_bind (m := field (.ref e) 4) (wpAny_field e1 rfl (x := .none) rfl (wpAny_bind (m := mkInt i) (wpAny_mkInt ?_)))))
  refine wpAny_bind (m := setField (.ref e) 3 _) (wpAny_setField_rec e1 (by simp) fun h2 (e2 : IsEnum h2 e it ((i : Int) + 1) old) (oB : Heap.SameBut e h1 h2) => ?_)
  refine wpAny_bind (m := setField (.ref e) 4 .none) (wpAny_setField_rec e2 (by simp) fun h3 (e3 : IsEnum h3 e it ((i : Int) + 1) old) (Ki : Heap.SameBut e h2 h3) => ?_)
  refine wpAny_bind (m := newTuple [.int i tk, x]) (wpAny_newTuple ?_)
  have z3 : h3.objs.size = hp.objs.size := by rw [Ki.1, oB.1, Gs.1]
  have el : e < hp.objs.size := Heap.lt_size he
  have e4 : IsEnum (h3.push { cls := .type "tuple", data := .seq #[.int i tk, x] }) e it ((i : Int) + 1) old := Heap.get?_push_of_some _ e3
  have t4 : (h3.push { cls := .type "tuple", data := .seq #[.int i tk, x] }).get? hp.objs.size = some { cls := .type "tuple", data := .seq #[.int i tk, x] } := z3 ▸ Heap.get?_push_size _ rfl
  have up : ∀ b o, b ≠ e → h1.get? b = some o → (h3.push { cls := .type "tuple", data := .seq #[.int i tk, x] }).get? b = some o := fun b o n q => Heap.get?_push_of_some _ (Ki.extBut b o n (oB.extBut b o n q))
  generalize h3.push { cls := .type "tuple", data := .seq #[.int i tk, x] } = h4 at e4 t4 up
  rw [z3]
  refine wpAny_bind (m := ownedTupleIsFree (.ref e)) ?_
  unfold ownedTupleIsFree
  refine wpAny_bind (m := field (.ref e) 0) (wpAny_field e4 rfl (x := .none) rfl (wpAny_pure ?_))
  rw [if_pos rfl]
  refine wpAny_bind (wpAny_rule (wpAny_bind (m := field (.ref e) 5) (wpAny_field e4 rfl (x := old) rfl ?_)))
  refine wpAny_bind (m := setField (.ref e) 5 x) (wpAny_setField_rec e4 (by simp) fun h5 (e5 : IsEnum h5 e it ((i : Int) + 1) x) (MV : Heap.SameBut e h4 h5) => ?_)
  refine wpAny_bind (m := ownedTupleHandOut (.ref e) _) ?_
  unfold ownedTupleHandOut
  refine wpAny_bind (wpAny_setField_rec e5 (by simp) fun h6 (e6 : IsEnumOut h6 e it ((i : Int) + 1) x hp.objs.size) (MX : Heap.SameBut e h5 h6) => ?_)
  refine wpAny_setField_rec e6 (by simp) fun h7 (e7 : IsEnumOut h7 e it ((i : Int) + 1) x hp.objs.size) (MY : Heap.SameBut e h6 h7) => ?_
  have Gu : ∀ b o, b ≠ e → h4.get? b = some o → h7.get? b = some o := fun b o n q => MY.extBut b o n (MX.extBut b o n (MV.extBut b o n q))
  refine wpAny_bind (wpAny_letGo (wpAny_pure ⟨_, rfl, hQ h7 e7 (Gr.at fun o q => Gu it o (Ne.symm eE) (up it o (Ne.symm eE) q)) (Gu _ _ (Nat.ne_of_gt el) t4) fun b o n1 n2 q => Gu b o n1 (up b o n1 ((Gs.2 b n2).trans q))⟩))
theorem yT {Q : Option Value → Shared → Prop} (he : IsEnum s.heap e it i old) (eE : e ≠ it) (hit : fG k s.heap it a i) (ha : ni k s.heap a items) (hx : items[i]? = some x)
    (hQ : ∀ h', IsEnumOut h' e it ((i : Int) + 1) x s.heap.objs.size → fG k h' it a (i + 1) → h'.get? s.heap.objs.size = some { cls := .type "tuple", data := .seq #[.int i s.toks, x] } →
      (∀ b o, b ≠ e → b ≠ it → s.heap.get? b = some o → h'.get? b = some o) → Q (some (.ref s.heap.objs.size)) { s with heap := h', toks := s.toks + 1 }) :
    wpAny (model prog w) A (pyNext (.ref e)) Q E s := by
  have hT : s.TypeIs (.ref e) "enumerate" := ⟨_, he, rfl⟩
  have sl := F.slot_enumerate_next
  unfold pyNext
  exact wpAny_bind (wpAny_attempt (wpAny_callSpecial?_slot (name := Str.ofString "__next__") hT sl (wpAny_call_entry sl hT F.entry_enumerate_next (yS he eE hit ha hx fun h' a b c d => wpAny_pure (hQ h' a b c d)) (F.args_enumerate_next_1 _))))
theorem yU {Q : Option Value → Shared → Prop} (hh : A.handled = none) (he : IsEnum s.heap e it i old) (hit : fG k s.heap it a i) (ha : ni k s.heap a items) (hx : items[i]? = none)
    (hQ : ∀ h', Heap.ExtBut it s.heap h' → Q none { s with heap := h' }) : wpAny (model prog w) A (pyNext (.ref e)) Q E s := by
  have hT : s.TypeIs (.ref e) "enumerate" := ⟨_, he, rfl⟩
  have sl := F.slot_enumerate_next
  unfold pyNext
  refine wpAny_bind (wpAny_attempt (wpAny_callSpecial?_slot (name := Str.ofString "__next__") hT sl (wpAny_call_entry sl hT F.entry_enumerate_next ?_ (F.args_enumerate_next_1 _))))
  refine wpAny_bind (m := field (.ref e) 2) (wpAny_field he rfl (x := .ref it) rfl (wpAny_bind (m := nextOf (.ref it)) (DH hh hit ha hx fun h' y eb ⟨o, ho, hc⟩ => ?_)))
  exact wpAny_bind (wpAny_isInstance (T := "StopIteration") (b := true) ⟨o, ho, hc⟩ isSubtype_stop (wpAny_pure (hQ _ eb)))
end
end L2
namespace L2
open PySem PySem.Spec PyProof.Rows Builtin.SmallTypes AutoSeq1
theorem sP : bootBuiltins "enumerate" = some (.type "enumerate") := by decide +kernel
section
variable {X : Cx} {pins : List (Addr × Obj)} {σ : St} {H : Hp} {s : Shared} {h' : Heap}
theorem Inv.pC {t' : Nat} {ch : List Addr} (I : Inv X pins σ H s) (k : ∀ b o, b ∉ ch → s.heap.get? b = some o → h'.get? b = some o) (hf : ∀ b ∈ ch, cS X pins H b) : Inv X pins σ H { s with heap := h', toks := t' } := by
  have xK : ∀ b u, H b = some u → b ∉ ch := fun b u e z => by rw [(hf b z).1] at e; cases e
  refine I.step (g' := s.gens) (d' := s.drawn) (ch := ch) (fun b hb => ?_) (fun b o _ _ hc e _ => k b o hc e) (fun b o _ _ hc e _ => ⟨o.slots, k b o hc e⟩) (fun _ _ _ _ n => n)
    (fun b o hc e => ⟨o, k b o hc e⟩) (fun _ _ e => e) (fun _ _ _ e => e) (fun b ps e => ⟨#[], by rw [e]; simp⟩) (fun m hm => ?_) (fun b u e => ?_) I.bare.self
  · obtain ⟨_, f1, f2, f3, f4, f5⟩ := hf b hb
    exact ⟨f3, f1, f4, f5⟩
  · obtain ⟨o, es, ep, ho, r⟩ := hm
    exact ⟨o, es, ep, k _ o (fun z => (hf _ z).2.1 rfl) ho, r⟩
  · refine (I.hok b u e).bO (fun c v hc q => k c v ?_ q) (fun _ q => q) fun _ _ q => q
    rcases hc with z | z
    · rw [z]; exact xK b u e
    · exact xK c _ z
theorem Inv.pair {t : Addr} {a b : V} {u v : Value} {h1 : Heap} {tk tk0 : Nat} (I0 : Inv X pins σ H { s with toks := tk0 }) (ht : s.heap.objs.size ≤ t) (I : Inv X pins σ H { s with heap := h1, toks := tk }) (e : h1.get? t = some { cls := .type "tuple", data := .seq #[u, v] }) (ru : RelV a u) (rv : RelV b v) :
    Inv X pins σ (upd H t (.tup [a, b])) { s with heap := h1, toks := tk } := by
  have f := Inv.jH (H' := H) I0 (b := t) ht (I0.hok.fresh ht)
  refine I.IV f.1 ?_ f.2.1 f.2.2.2.2.1 f.2.2.2.2.2 ⟨by show 2 ≤ sizeLine; decide, [u, v], .cons ru (.cons rv .nil), ⟨_, e, rfl, _, rfl, rfl⟩⟩
  exact Heap.get?_none_of_le (Nat.le_trans I0.sz ht)
end
noncomputable def Sq (k : Bool) (K : PySem.W.Frag) (H : Hp) (a : Addr) (xs : List V) : Prop := if k = true then bB K H a xs else ck K H a xs
theorem Inv.sq {X : Cx} {pins : List (Addr × Obj)} {σ : St} {H : Hp} {s : Shared} {k : Bool} {a : Addr} {xs : List V} (I : Inv X pins σ H s) (h : Sq k X.K H a xs) : ∃ its : List Value, Vals xs its ∧ ni k s.heap a its.toArray := by
  cases k with
  | true => obtain ⟨its, rv, p, _⟩ := I.list (show bB X.K H a xs from h); exact ⟨its, rv, p.isList⟩
  | false => obtain ⟨its, rv, p, _⟩ := I.tuple (show ck X.K H a xs from h); exact ⟨its, rv, p⟩
theorem Inv.Gv {X : Cx} {pins : List (Addr × Obj)} {σ : St} {H : Hp} {s : Shared} {k : Bool} {a : Addr} {xs ys : List V} (I : Inv X pins σ H s) (h : Sq k X.K H a xs) (h' : Sq k X.K H a ys) : xs = ys := by
  cases k with
  | true => exact I.rT (show bB X.K H a xs from h) h'
  | false => exact I.p8 (show ck X.K H a xs from h) h'
noncomputable def Cp (k : Bool) (K : PySem.W.Frag) (a : Addr) : It :=
  ⟨fun i H => ∃ xs x, Sq k K H a xs ∧ xs[i]? = some x, fun i H v H' => ∃ t x, H t = none ∧ v = .ref t ∧ H' = upd H t (.tup [.int (i : Nat), x]) ∧ ∀ xs, Sq k K H a xs → xs[i]? = some x, fun i H => ∃ xs, Sq k K H a xs ∧ xs.length ≤ i⟩
theorem yV {P : Program} {w : World} {K : PySem.W.Frag} {elts : List Expr} {x1 : Nat} {pos : Pos} (k : Bool) (a it e : Addr) (eE : e ≠ it) :
    Turn P w K (.Tuple elts x1 pos) (Cp k K a) [e, it] e (fun i h => (∃ old, IsEnum h e it i old) ∧ fG k h it a i) where
  mem := by simp
  obj := fun i h st b hb => by
    obtain ⟨⟨old, he⟩, hit⟩ := st
    simp only [List.mem_cons, List.not_mem_nil, or_false] at hb
    rcases hb with rfl | rfl
    · exact ⟨_, he, fun v z => nomatch z⟩
    · obtain ⟨o, ho, vs, hd⟩ := hit.obj
      exact ⟨o, ho, fun v z => by rw [hd] at z; cases z⟩
  keep := fun i h h' st q => by
    obtain ⟨⟨old, he⟩, hit⟩ := st
    exact ⟨⟨old, q e (by simp) _ he⟩, hit.at fun o ho => q it (by simp) o ho⟩
  item := by
    intro X hP hw hK hc i pins s σ H E I hf st hg
    subst hP hw hK
    obtain ⟨⟨old, he⟩, hit⟩ := st
    obtain ⟨xs, x, hq, hx⟩ := hg
    obtain ⟨its, rv, p⟩ := I.sq hq
    obtain ⟨u, hu, ru⟩ := rv.get hx
    refine yT he eE hit p (x := u) (by simpa using hu) fun h1 eo Gr t1 kk => ?_
    refine ⟨_, rfl, wpAny_letOwnedTupleGo_enum eo fun h2 e2 (oB : Heap.SameBut e h1 h2) => ?_⟩
    have el : e < s.heap.objs.size := Heap.lt_size he
    have I2 : Inv X pins σ H { s with heap := h2, toks := s.toks + 1 } := I.pC (ch := [e, it]) (fun b o hb q => by
      simp only [List.mem_cons, List.not_mem_nil, or_false, not_or] at hb
      exact (oB.2 b hb.1).trans (kk b o hb.1 hb.2 q)) hf
    have t2 : h2.get? s.heap.objs.size = some { cls := .type "tuple", data := .seq #[.int i s.toks, u] } := (oB.2 _ (Nat.ne_of_gt el)).trans t1
    have hn : H s.heap.objs.size = none := I.hok.fresh (Nat.le_refl _)
    refine ⟨.ref s.heap.objs.size, _, Inv.pair (s := s) (tk0 := s.toks) I (Nat.le_refl _) I2 t2 (a := .int (i : Nat)) ⟨s.toks, rfl⟩ ru, rfl, ⟨_, x, hn, rfl, rfl, fun ys hy => by rw [I.Gv hy hq]; exact hx⟩, ⟨⟨u, ?_⟩, Gr.at fun o q => (oB.2 it (Ne.symm eE)).trans q⟩, fun b hb => ?_⟩
    · have c : ((i + 1 : Nat) : Int) = (i : Int) + 1 := by push_cast; rfl
      rw [c]
      exact e2
    · have l : b ≠ s.heap.objs.size := by
        simp only [List.mem_cons, List.not_mem_nil, or_false] at hb
        rcases hb with rfl | rfl
        · exact Nat.ne_of_lt el
        · obtain ⟨o, ho, _⟩ := hit.obj
          exact Nat.ne_of_lt (Heap.lt_size ho)
      rw [ae l]
      exact (hf b hb).1
  done := by
    intro X hP hw hK hc i pins s σ H E I hf st hg
    subst hP hw hK
    obtain ⟨⟨old, he⟩, hit⟩ := st
    obtain ⟨xs, hq, hx⟩ := hg
    obtain ⟨its, rv, p⟩ := I.sq hq
    have hl := rv.length
    exact yU (I.ok.hd hc) he hit p (by simp; omega) fun h1 eb => ⟨rfl, I.pC (t' := s.toks) (ch := [it]) (fun b o hb q => eb b o (by simpa using hb) q) fun b hb => hf b (by simp at hb; simp [hb])⟩
  self := fun _ _ _ _ _ st h => wpAny_pyIter_enum st.1.choose_spec h
noncomputable abbrev yW (a : Addr) : Obj := { cls := .type "tuple_iterator", data := .fields #[.ref a, .int 0 0] }
noncomputable abbrev Gw (it : Addr) : Obj := { cls := .type "enumerate", data := .fields #[.none, .bool false, .ref it, rawInt 0, .none, .none] }
theorem DI (a : Addr) (items : Array Value) (n : Nat) (dct : Option Addr) (sl : Array (Option Value)) :
    Meets (Builtin.«enumerate.__new__» ⟨[.type "enumerate", .ref a], []⟩) (fun _ R s => s.heap.get? a = some { cls := .type "tuple", dict := dct, data := .seq items n, slots := sl } ∧
      R (.ok (.ret (.ref (s.heap.push (yW a)).objs.size))) { s with heap := (s.heap.push (yW a)).push (Gw s.heap.objs.size) }) :=
  .of_wp fun prog w A R s h => by
    obtain ⟨hp, g, d, tk, os⟩ := s
    obtain ⟨hl, h⟩ := h
    have sD := sub_enumerate
    have hT : Heap.IsTuple (Shared.heap ⟨hp, g, d, tk, os⟩) a items := ⟨_, hl, rfl, n, rfl⟩
    wp_walk using wpAny_loadPart' hl
    refine wpAny_stack_any fun st => wpAny_pure ?_
    split
    case h_1 c _ _ _ _ _ => cases (c == Value.type "enumerate") <;> (wp_walk using wpAny_loadPart' hl, wpAny_pyIter_tuple hT; exact ⟨_, rfl, h⟩)
    case h_2 => wp_walk using wpAny_loadPart' hl, wpAny_pyIter_tuple hT; exact ⟨_, rfl, h⟩
section
variable {prog : Program} {w : World} {A : Around} {E : Value → Shared → Prop} {s : Shared}
theorem wy {a : Addr} {items : Array Value} {Q : Value → Shared → Prop} (hT : s.heap.IsTuple a items)
    (h : ∀ h', IsEnum h' (s.heap.objs.size + 1) s.heap.objs.size 0 .none → h'.IsTupleIter s.heap.objs.size a 0 → (∀ b o, s.heap.get? b = some o → h'.get? b = some o) → Q (.ref (s.heap.objs.size + 1)) { s with heap := h' }) :
    wpAny (model prog w) A (call (.type "enumerate") [.ref a]) Q E s := by
  obtain ⟨ob, ho, hc, n, hd⟩ := hT
  obtain ⟨c, dd, dt, sl⟩ := ob
  dsimp only at hc hd
  subst hc hd
  refine callType_new F.called_enumerate (by decide) (F.typeCall_enumerate_1 _) (F.newCall_enumerate_1 _) (fun obj => F.args_object_init_2 obj _) F.entry_enumerate_new (DI a items n dd sl) ⟨ho, ?_⟩
  have z : (s.heap.push (yW a)).objs.size = s.heap.objs.size + 1 := Heap.size_push ..
  have he : ((s.heap.push (yW a)).push (Gw s.heap.objs.size)).get? (s.heap.objs.size + 1) = some (Gw s.heap.objs.size) := z ▸ Heap.get?_push_size (s.heap.push (yW a)) rfl
  show _ ∧ _
  rw [z]
  exact ⟨⟨_, he, rfl⟩, h _ he ⟨_, Heap.get?_push_of_some _ (Heap.get?_push_size _ rfl), rfl, rfl⟩ fun b o x => Heap.get?_push_of_some _ (Heap.get?_push_of_some _ x)⟩
theorem yX {k : Bool} {a : Addr} {items : Array Value} {Q : Value → Shared → Prop} (hT : ni k s.heap a items)
    (h : ∀ h', IsEnum h' (s.heap.objs.size + 1) s.heap.objs.size 0 .none → fG k h' s.heap.objs.size a 0 → (∀ b o, s.heap.get? b = some o → h'.get? b = some o) → Q (.ref (s.heap.objs.size + 1)) { s with heap := h' }) :
    wpAny (model prog w) A (call (.type "enumerate") [.ref a]) Q E s := by
  cases k with
  | true => exact call_enumerate_list hT fun h' a b _ c => h h' a b c
  | false => exact wy hT h
end
section
variable {X : Cx} {l : Expr} {tl : TE} {elts : List Expr} {x1 : Nat} {tp p pos : Pos}
noncomputable def IX (k : Bool) (K : PySem.W.Frag) (tl : TE) : TI := fun σ H R => tl σ H fun x H1 => ∃ a, x = .ref a ∧ (∃ xs, Sq k K H1 a xs) ∧ R (Cp k K a) H1
theorem DJ (k : Bool) {K : PySem.W.Frag} (hK : X.K = K) (hg : Gl X "enumerate") (hm : X.mg "enumerate" = none) (hl : PE X l tl) (hs : starEach [l] X.env = [(false, eval l X.env)] := by rfl) :
    PI X (.Tuple elts x1 tp) (.Call (.Name "enumerate" p) [l] [] pos) (IX k K tl) := by
  subst hK
  intro pins s σ H R I h
  refine wpAny_Call_Name_kw (fZ I hg hm sP ?_)
  refine PyProof.Rows.callWith_type1 ?_ hs rfl
  rw [hs]
  refine Calls.spliced_cons (thn (hl pins s σ H _ I h) fun v s1 ⟨x, H1, I1, r1, q1⟩ => Calls.spliced_nil ?_)
  obtain ⟨a, rfl, ⟨xs, hq⟩, q⟩ := q1
  cases (show v = Value.ref a from r1)
  obtain ⟨its, rv, sq⟩ := I1.sq hq
  refine yX sq fun h' he hit kk => ?_
  refine wpAny_pyIter_enum he ?_
  have I2 : Inv X pins σ H1 { s1 with heap := h' } := I1.kept (t' := s1.toks) kk
  have ne : s1.heap.objs.size + 1 ≠ s1.heap.objs.size := Nat.ne_of_gt (Nat.lt_succ_self _)
  refine ⟨_, [s1.heap.objs.size + 1, s1.heap.objs.size], _, Cp k X.K a, H1, rfl, I2, yV k a _ _ ne, ⟨⟨_, he⟩, hit⟩, fun b hb => ?_, q⟩
  simp only [List.mem_cons, List.not_mem_nil, or_false] at hb
  rcases hb with rfl | rfl
  · exact I1.jH (Nat.le_succ _) (I1.hok.fresh (Nat.le_succ _))
  · exact I1.jH (Nat.le_refl _) (I1.hok.fresh (Nat.le_refl _))
end
noncomputable def wz (J : It) (ys : List (V × V)) (H : Hp) : Prop := ∀ i, (i < ys.length → J.go i H ∧ ∀ x H', J.yld i H x H' → ∃ t p, H t = none ∧ x = .ref t ∧ ys[i]? = some p ∧ H' = upd H t (.tup [p.1, p.2])) ∧ (ys.length ≤ i → J.stop i H)
theorem qC {k : Bool} {K : PySem.W.Frag} {a : Addr} {ys : List V} {H : Hp} (h : Sq k K H a ys) : wz (Cp k K a) ((List.range ys.length).map fun i => (V.int (i : Nat), ys.getD i .aq)) H := fun i => by
  have el : ((List.range ys.length).map fun i => (V.int (i : Nat), ys.getD i .aq)).length = ys.length := by simp
  rw [el]
  refine ⟨fun hi => ⟨⟨ys, ys[i], h, List.getElem?_eq_getElem hi⟩, fun x H' ⟨t, y, n, e1, e2, e3⟩ => ⟨t, (.int (i : Nat), y), n, e1, ?_, e2⟩⟩, fun hi => ⟨ys, h, hi⟩⟩
  rw [List.getElem?_map, List.getElem?_range hi]
  have := e3 ys h
  show some (V.int (i : Nat), ys.getD i .aq) = _
  rw [List.getD_eq_getElem?_getD, this]
  rfl
end L2
namespace L2
open PySem PySem.Spec PyProof.Rows
section
variable {X : Cx} {st : Stmt} {ι : Type} {Pre : ι → St → Hp → Prop} {D : ι → Ends}
theorem rl {P : Program} {w : World} {K : PySem.W.Frag} (hP : X.prog = P) (hw : X.w = w) (h : X.K = K) (hc : X.calm = true) : cW X (.builtin "sorted") (u6 P w K) := by
  subst hP hw h
  exact sN hc
end
section
variable {κ : Type} [DecidableEq κ]
noncomputable def h8 (au : List (κ × V)) (k : κ) : Option V := (au.find? fun kv => decide (kv.1 = k)).map (·.2)
noncomputable def putK (au : List (κ × V)) (k : κ) (v : V) : List (κ × V) :=
  if (au.any fun kv => decide (kv.1 = k)) = true then au.map (fun kv => if kv.1 = k then (kv.1, v) else kv) else au ++ [(k, v)]
theorem ke {p : κ × V} {r : List (κ × V)} {k : κ} (e : p.1 = k) : h8 (p :: r) k = some p.2 := by simp [h8, List.find?_cons, e]
theorem kf {p : κ × V} {r : List (κ × V)} {k : κ} (e : ¬ p.1 = k) : h8 (p :: r) k = h8 r k := by simp [h8, List.find?_cons, e]
theorem nj (k : κ) : ∀ au : List (κ × V), (au.any fun kv => decide (kv.1 = k)) = (h8 au k).isSome
  | [] => rfl
  | p :: r => by
    rw [List.any_cons]
    by_cases e : p.1 = k
    · simp only [ke e, decide_eq_true e, Bool.true_or, Option.isSome_some]
    · rw [kf e, decide_eq_false e, Bool.false_or]; exact nj k r
theorem mS (au : List (κ × V)) (k : κ) (v : V) : (putK au k v).length ≤ au.length + 1 := by
  unfold putK
  split
  · rw [List.length_map]; omega
  · rw [List.length_append, List.length_cons, List.length_nil]; omega
theorem iP.lj {o : Option V} {u : Option Value} (r : iP o u) : o.isSome = u.isSome := by
  cases o with
  | none => cases u with
    | none => rfl
    | some _ => exact (show False from r).elim
  | some _ => cases u with
    | none => exact (show False from r).elim
    | some _ => rfl
theorem KV.val {au : List (κ × V)} {vs : List (κ × Value)} (r : KV au vs) (k : κ) : iP (h8 au k) (valueAt vs k) := by
  unfold KV at r
  induction r with
  | nil => exact True.intro
  | @cons p q ps qs h t ih =>
    obtain ⟨h1, h2⟩ := h
    by_cases e : p.1 = k
    · have e' : q.1 = k := h1.symm.trans e
      have b : valueAt (q :: qs) k = some q.2 := by simp [valueAt, List.find?_cons, e']
      rw [ke e, b]; exact h2
    · have e' : ¬ q.1 = k := fun z => e (h1.trans z)
      have b : valueAt (q :: qs) k = valueAt qs k := by simp [valueAt, List.find?_cons, e']
      rw [kf e, b]; exact ih
theorem KV.any {au : List (κ × V)} {vs : List (κ × Value)} (r : KV au vs) (k : κ) : (au.any fun kv => decide (kv.1 = k)) = vs.any fun kv => decide (kv.1 = k) := by
  unfold KV at r
  induction r with
  | nil => rfl
  | cons h t ih => rw [List.any_cons, List.any_cons, ih, h.1]
theorem KV.repl {au : List (κ × V)} {vs : List (κ × Value)} (r : KV au vs) (k : κ) {y : V} {u : Value} (ry : RelV y u) :
    KV (au.map fun kv => if kv.1 = k then (kv.1, y) else kv) (vs.map fun kv => if kv.1 = k then (kv.1, u) else kv) := by
  unfold KV at r ⊢
  induction r with
  | nil => exact .nil
  | @cons p q ps qs h t ih =>
    rw [List.map_cons, List.map_cons]
    refine .cons ?_ ih
    obtain ⟨h1, h2⟩ := h
    by_cases e : p.1 = k
    · rw [if_pos e, if_pos (h1.symm.trans e)]; exact ⟨h1, ry⟩
    · rw [if_neg e, if_neg (fun z => e (h1.trans z))]; exact ⟨h1, h2⟩
theorem KV.put {au : List (κ × V)} {vs : List (κ × Value)} (r : KV au vs) (k : κ) {y : V} {u : Value} (ry : RelV y u) : KV (putK au k y) (stored vs k u) := by
  unfold putK stored
  rw [r.any k]
  by_cases e : (vs.any fun kv => decide (kv.1 = k)) = true
  · rw [if_pos e, if_pos e]; exact r.repl k ry
  · rw [if_neg e, if_neg e]; exact Paired.snoc r ⟨rfl, ry⟩
theorem KV.length {au : List (κ × V)} {vs : List (κ × Value)} (r : KV au vs) : au.length = vs.length := Paired.length r
end
theorem rG {P : Program} {w : World} {k : Key} {u : Value} (r : RelV (kV k) u) : (bJ P w).is k u = true := by
  cases k with
  | inl i => obtain ⟨t, e⟩ := (show ∃ t, u = Value.int i t from r); subst e; exact uf P w i t
  | inr x => obtain ⟨t, e⟩ := (show ∃ t, u = Value.str x t from r); subst e; exact ug P w x t
theorem qD {P : Program} {w : World} : ∀ {ks : List Key} {us : List Value}, Vals (ks.map kV) us → ItemsAre (bJ P w) ks us
  | [], _, r => by rw [List.map_nil] at r; cases r; exact .nil
  | k :: ks, _, r => by
    rw [List.map_cons] at r
    cases r with
    | cons h t => exact .cons (rG h) (qD t)
noncomputable abbrev KT (H : Hp) : List (List Key × V) → List (List Key × Addr × Value) → Prop := Paired fun p q => p.1 = q.1 ∧ H q.2.1 = some (.tup (p.1.map kV)) ∧ RelV p.2 q.2.2
theorem KT.val {H : Hp} {au : List (List Key × V)} {xs : List (List Key × Addr × Value)} (r : KT H au xs) (k : List Key) : iP (h8 au k) ((atKey xs k).map (·.2)) := by
  induction r with
  | nil => exact True.intro
  | @cons p q ps qs h t ih =>
    obtain ⟨h1, _, h2⟩ := h
    by_cases e : p.1 = k
    · have e' : q.1 = k := h1.symm.trans e
      have b : atKey (q :: qs) k = some q.2 := by simp [atKey, List.find?_cons, e']
      rw [ke e, b]; exact h2
    · have e' : ¬ q.1 = k := fun z => e (h1.trans z)
      have b : atKey (q :: qs) k = atKey qs k := by simp [atKey, List.find?_cons, e']
      rw [kf e, b]; exact ih
theorem KT.repl {H : Hp} {au : List (List Key × V)} {xs : List (List Key × Addr × Value)} (r : KT H au xs) (k : List Key) {y : V} {u : Value} (ry : RelV y u) :
    KT H (au.map fun kv => if kv.1 = k then (kv.1, y) else kv) (xs.map (putAt k u)) := by
  induction r with
  | nil => exact .nil
  | @cons p q ps qs h t ih =>
    rw [List.map_cons, List.map_cons]
    refine .cons ?_ ih
    obtain ⟨h1, h2, h3⟩ := h
    unfold putAt
    by_cases e : p.1 = k
    · rw [if_pos e, if_pos (h1.symm.trans e)]; exact ⟨h1, h2, ry⟩
    · rw [if_neg e, if_neg (fun z => e (h1.trans z))]; exact ⟨h1, h2, h3⟩
theorem KT.put {H : Hp} {au : List (List Key × V)} {xs : List (List Key × Addr × Value)} (r : KT H au xs) (k : List Key) {b : Addr} {y : V} {u : Value} (hb : H b = some (.tup (k.map kV))) (ry : RelV y u) :
    KT H (putK au k y) (storedH xs k b u) := by
  have e : (au.any fun kv => decide (kv.1 = k)) = (atKey xs k).isSome := by
    rw [nj, (r.val k).lj, Option.isSome_map]
  unfold putK storedH
  rw [e]
  by_cases q : (atKey xs k).isSome = true
  · rw [if_pos q, if_pos q]; exact r.repl k ry
  · rw [if_neg q, if_neg q]; exact Paired.snoc r ⟨rfl, hb, ry⟩
theorem KT.keeps {H H' : Hp} {au : List (List Key × V)} {xs : List (List Key × Addr × Value)} (r : KT H au xs) (ht : ∀ b ys, H b = some (.tup ys) → H' b = some (.tup ys)) : KT H' au xs :=
  Paired.Ak r fun _ _ z => ⟨z.1, ht _ _ z.2.1, z.2.2⟩
section
variable {P : Program} {w : World} {H : Hp} {h : Heap} {a : Addr}
theorem Cq {u : HO} (ok : cc P w H h) (e : Rd H a u) : ObjOk P w H h a u := e.ok ok
theorem rH {au : List (Key × V)} (ok : cc P w H h) (e : Rd H a (.dK au)) : au.length ≤ sizeLine ∧ (a == sysModules) = false ∧ ∃ vs, KV au vs ∧ h.DictOf (bJ P w) a vs :=
  show ObjOk P w H h a (.dK au) from Cq ok e
theorem IY {au : List (Key × V)} (ok : cc P w H h) (e : H a = some (.dK au)) : au.length ≤ sizeLine ∧ (a == sysModules) = false ∧ ∃ vs, KV au vs ∧ h.DictOf (bJ P w) a vs := rH ok (.inl e)
theorem ll {ks : List Key} (ok : cc P w H h) (e : H a = some (.tup (ks.map kV))) : (tupleKind (bJ P w)).is h ks a := by
  obtain ⟨_, its, r, o, h1, h2, n, h3, _⟩ := (show ObjOk P w H h a (.tup (ks.map kV)) from ok a _ e)
  exact ⟨o, its.toArray, n, h1, h2, h3, by simpa using qD r⟩
theorem oC {au : List (List Key × V)} (ok : cc P w H h) (e : Rd H a (.dT au)) : au.length ≤ sizeLine ∧ (a == sysModules) = false ∧
    ∃ xs, KT H au xs ∧ h.DictOfH (tupleKind (bJ P w)) a xs := by
  obtain ⟨z, y, xs, r, o, es, ep, h1, h2, h3, h4, h5⟩ := (show ObjOk P w H h a (.dT au) from Cq ok e)
  refine ⟨z, y, xs, r, o, es, ep, h1, h2, h3, h4, fun x hx => ?_, h5⟩
  have all : ∀ {l : List (List Key × V)} {m : List (List Key × Addr × Value)}, KT H l m → ∀ x ∈ m, (tupleKind (bJ P w)).is h x.1 x.2.1 := by
    intro l m q
    induction q with
    | nil => intro x hx; exact nomatch hx
    | @cons p q ps qs hq t ih =>
      intro x hx
      rcases List.mem_cons.mp hx with e | hx
      · subst e
        exact ll ok (by rw [← hq.1]; exact hq.2.1)
      · exact ih x hx
  exact all r x hx
theorem Cr {au : List (List Key × V)} (ok : cc P w H h) (e : H a = some (.dT au)) : au.length ≤ sizeLine ∧ (a == sysModules) = false ∧
    ∃ xs, KT H au xs ∧ h.DictOfH (tupleKind (bJ P w)) a xs := oC ok (.inl e)
end
noncomputable def pD (H : Hp) (a : Addr) (y : V) (r : Option V) : Prop :=
  (∃ au k, Rd H a (.dK au) ∧ y = kV k ∧ r = h8 au k) ∨ ∃ au k b, Rd H a (.dT au) ∧ y = .ref b ∧ H b = some (.tup (k.map kV)) ∧ r = h8 au k
noncomputable def Gx (H : Hp) (a : Addr) (y v : V) (H' : Hp) : Prop :=
  (∃ au k, H a = some (.dK au) ∧ y = kV k ∧ au.length < sizeLine ∧ H' = upd H a (.dK (putK au k v))) ∨
  ∃ au k b, H a = some (.dT au) ∧ y = .ref b ∧ H b = some (.tup (k.map kV)) ∧ au.length < sizeLine ∧ H' = upd H a (.dT (putK au k v))
section
variable {X : Cx} {pins : List (Addr × Obj)} {σ : St} {H : Hp} {s : Shared} {a : Addr} {y v : V} {u r : Value} {o : Option V} {A : Around} {E : Value → Shared → Prop}
theorem Inv.big (I : Inv X pins σ H s) : sysModules < s.heap.objs.size := by
  have h : mainGlobals < s.heap.objs.size := (I.mod.glob.keeps I.bk).lt
  exact Nat.lt_trans (by decide) h
theorem yY {Q : Value → Shared → Prop} (hu : A.units + 1 < cLine) (I : Inv X pins σ H s) (g : pD H a y (some v)) (ry : RelV y u) (h : ∀ w' s', Inv X pins σ H s' → RelV v w' → Q w' s') :
    wpAny (model X.prog X.w) A (getItem (.ref a) u) Q E s := by
  rcases g with ⟨au, k, e, ey, l⟩ | ⟨au, k, b, e, ey, eb, l⟩
  · subst ey
    obtain ⟨z, hd, vs, rel, dd⟩ := rH I.hok e
    obtain ⟨w', hw, jO⟩ := iP.some_of (v := v) (o := valueAt vs k) (by rw [l]; exact rel.val k)
    exact wpAny_getItem_of (rG ry) dd.mapOf hw (h w' _ (I.tok _) jO)
  · subst ey
    cases (show u = Value.ref b from ry)
    obtain ⟨z, hd, xs, rel, dd⟩ := oC I.hok e
    obtain ⟨w', hw, jO⟩ := iP.some_of (v := v) (o := (atKey xs k).map (·.2)) (by rw [l]; exact rel.val k)
    obtain ⟨p, hp, MZ⟩ := Option.map_eq_some_iff.mp hw
    refine wpAny_getItem_heap (tupleKind_room_in1 hu) (ll I.hok eb) dd hp ?_
    rw [MZ]
    exact h w' _ (I.tok _) jO
theorem DK {Q : Value → Shared → Prop} (hu : A.units + 1 < cLine) (I : Inv X pins σ H s) (g : pD H a y o) (ry : RelV y u) (h : ∀ s', Inv X pins σ H s' → Q (.bool (!o.isSome)) s') :
    wpAny (model X.prog X.w) A (compareOp .NotIn u (.ref a)) Q E s := by
  rcases g with ⟨au, k, e, ey, l⟩ | ⟨au, k, b, e, ey, eb, l⟩
  · subst ey
    obtain ⟨z, hd, vs, rel, dd⟩ := rH I.hok e
    refine wpAny_notIn_of (rG ry) hd dd.mapOf ?_
    rw [← (rel.val k).lj, ← l]
    exact h _ (I.tok _)
  · subst ey
    cases (show u = Value.ref b from ry)
    obtain ⟨z, hd, xs, rel, dd⟩ := oC I.hok e
    refine wpAny_notIn_heap (tupleKind_room_in1 hu) (ll I.hok eb) hd dd ?_
    have q := (rel.val k).lj
    rw [Option.isSome_map] at q
    rw [← q, ← l]
    exact h _ (I.tok _)
theorem pE {h' : Heap} {t' : Nat} {ob : HO} (I : Inv X pins σ H s) (mu : xH (H a)) (hs : Heap.SameBut a s.heap h') (he : ∃ q, h'.get? a = some q) (new : ObjOk X.prog X.w (upd H a ob) h' a ob) :
    Inv X pins σ (upd H a ob) { s with heap := h', toks := t' } :=
  I.write (x := a) (e := a) mu (.inl rfl) (fun b q hb z => (hs.2 b hb).trans z) he new
theorem Gy {P : Program} {w : World} {H' : Hp} {h' : Heap} {au : List (Key × V)} {vs : List (Key × Value)} (z : au.length ≤ sizeLine) (hd : (a == sysModules) = false) (rel : KV au vs) (dd : h'.DictOf (bJ P w) a vs) :
    ObjOk P w H' h' a (.dK au) := ⟨z, hd, vs, rel, dd⟩
theorem yZ {H' : Hp} {Q : Unit → Shared → Prop} (hu : A.units + 1 < cLine) (I : Inv X pins σ H s) (g : Gx H a y v H') (ry : RelV y u) (rv : RelV v r) (h : ∀ s', Inv X pins σ H' s' → Q () s') :
    wpAny (model X.prog X.w) A (setItem (.ref a) u r) Q E s := by
  rcases g with ⟨au, k, e, ey, l, eH⟩ | ⟨au, k, b, e, ey, eb, l, eH⟩
  · subst ey eH
    obtain ⟨z, hd, vs, rel, dd⟩ := IY I.hok e
    have hz : vs.length ≤ sizeLine := by rw [← rel.length]; exact z
    have hl : (putK au k v).length ≤ sizeLine := by have := mS au k v; omega
    refine wpAny_setItem_pairs (hsz := hz) (rG ry) dd fun h' u9 hs => h _ ?_
    have he : ∃ q, h'.get? a = some q := let ⟨q, _, _, hq, _⟩ := u9; ⟨q, hq⟩
    exact pE I (by rw [e]; exact True.intro) hs he (Gy hl hd (rel.put k rv) u9)
  · subst ey eH
    cases (show u = Value.ref b from ry)
    obtain ⟨z, hd, xs, rel, dd⟩ := Cr I.hok e
    have hz : xs.length ≤ sizeLine := by rw [← Paired.length rel]; exact z
    have hl : (putK au k v).length ≤ sizeLine := by have := mS au k v; omega
    refine wpAny_setItem_heap (hsz := hz) (tupleKind_room_in1 hu) (ll I.hok eb) dd fun h' u9 hs => h _ ?_
    obtain ⟨q, es, ep, hq, h2, h3, h4, _, h5⟩ := u9
    refine pE I (by rw [e]; exact True.intro) hs ⟨q, hq⟩ ⟨hl, hd, _, (rel.put k eb rv).keeps fun c ys ec => ?_, q, es, ep, hq, h2, h3, h4, h5⟩
    rw [ae (vF ec e (fun z => nomatch z))]
    exact ec
end
noncomputable def Bi (i : Expr) : Prop := ∀ ov iv, subscripted i false ov iv = operate [ov, iv] (getItem ov iv)
theorem DL {prog : Program} {w : World} {A : Around} {E : Value → Shared → Prop} {s : Shared} {env : Env} {value slice : Expr} {pos : Pos} {T id : String} {Q : Value → Shared → Prop}
    (hl : typeLookup (.type T) "__getitem__" = pure (some (.builtin id))) (hs : Bi slice)
    (h : wpAny (model prog w) A (eval value env) (fun o az => wpAny (model prog w) A (eval slice env) (fun i gF => gF.TypeIs o T ∧ wpAny (model prog w) A (getItem o i) Q E gF) E az) E s) :
    wpAny (model prog w) A (eval (.Subscript value slice pos) env) Q E s := by
  refine Subscript_ (wpAny_mono h (fun o az c5 => wpAny_mono c5 (fun i gF Bj => ?_) fun _ _ x => x) fun _ _ x => x)
  obtain ⟨hT, Bj⟩ := Bj
  unfold subscriptTail
  refine wpAny_bind ?_
  rw [getitemInPython_of_ne hT.not_modules]
  refine wpAny_bind (wpAny_specialOf hT hl ?_)
  have fin : wpAny (model prog w) A (subscripted slice false o i) (fun r dC => wpAny (model prog w) A (letTemporaryGo value o r >>= fun _ => pure r) Q E dC) E gF := by
    rw [hs o i]
    exact wpAny_operating (wpAny_mono Bj (fun r dC LD => wpAny_bind (wpAny_letTemporaryGo (wpAny_pure LD))) fun _ _ x => x)
  first
    | exact wpAny_pure (wpAny_bind fin)
    | exact wpAny_bind (wpAny_pure (wpAny_bind fin))
    | exact wpAny_bind fin
theorem uw {X : Cx} {pins : List (Addr × Obj)} {σ : St} {H : Hp} {s : Shared} {a : Addr} {y : V} {o : Option V} (I : Inv X pins σ H s) (g : pD H a y o) : s.TypeIs (.ref a) "dict" := by
  rcases g with ⟨au, k, e, _, _⟩ | ⟨au, k, b, e, _, _, _⟩
  · obtain ⟨_, _, vs, _, dd⟩ := rH I.hok e
    exact dd.typeIs
  · obtain ⟨_, _, xs, _, dd⟩ := oC I.hok e
    exact dd.typeIs
noncomputable def IZ (td ty : TE) : TE := fun σ H Q => td σ H fun x H1 => ty σ H1 fun y H2 => ∃ a v, x = .ref a ∧ pD H2 a y (some v) ∧ Q v H2
noncomputable def Ja (td ty tv : TE) : TS := fun D σ H => tv σ H fun v H1 => td σ H1 fun x H2 => ty σ H2 fun y H3 => ∃ a H4, x = .ref a ∧ Gx H3 a y v H4 ∧ D.nx σ H4
section
variable {X : Cx} {o i e value : Expr} {pos pos' OQ : Pos} {td ty tv : TE}
theorem DM (hu : X.A.units + 1 < cLine) (ho : PE X o td) (hi : PE X i ty) (hs : Bi i) : PE X (.Subscript o i pos) (IZ td ty) := by
  refine ⟨?_⟩
  intro pins s σ H Q I h
  refine DL PySem.F.slot_dict_getitem.lookup hs (thn (ho pins s σ H _ I h) fun u s1 ⟨x, H1, I1, rx, q1⟩ => thn (hi pins s1 σ H1 _ I1 q1) fun iv s2 ⟨y, H2, I2, ry, a, v, ex, g, q2⟩ => ?_)
  subst ex
  obtain rfl : u = Value.ref a := rx
  exact ⟨uw I2 g, yY hu I2 g ry fun w' s3 I3 jO => ⟨v, H2, I3, jO, q2⟩⟩
theorem DN (hu : X.A.units + 1 < cLine) (ho : PE X o td) (hi : PE X i ty) (hv : PE X value tv) (hs : swapsWith value (some (.Subscript o i pos')) pos.line X.env = pure false) :
    PS X (.Assign [.Subscript o i pos'] value pos) (Ja td ty tv) := by
  refine ⟨?_⟩
  intro pins s σ H D I h
  refine wpAny_Assign_Subscript (thn (hv pins s σ H _ I h) fun r s1 ⟨v, H1, I1, rv, q1⟩ => thn (ho pins s1 σ H1 _ I1 q1) fun u s2 ⟨x, H2, I2, rx, q2⟩ => thn (hi pins s2 σ H2 _ I2 q2) fun iv s3 ⟨y, H3, I3, ry, a, H4, ex, g, q3⟩ => ?_) hs
  subst ex
  obtain rfl : u = Value.ref a := rx
  exact yZ hu I3 g ry rv fun s4 I4 => ⟨σ, H4, I4, q3⟩
end
theorem Bk {P : Program} {w : World} {H : Hp} (h : Heap) (hb : sysModules < h.objs.size) : ObjOk P w H (h.push { cls := .type "dict", data := .dict #[] }) h.objs.size (.dT []) :=
  ⟨Nat.zero_le _, beq_eq_false_iff_ne.mpr (Ne.symm (Nat.ne_of_lt hb)), [], .nil, _, #[], 0, Heap.get?_push_size _ rfl, ⟨rfl, rfl, rfl⟩, rfl, rfl, List.nodup_nil⟩
structure M1 (X : Cx) (o : Expr) (m : Str) (apos : Pos) (e : Expr) (aY : Pos) : Prop where
  base : attributeBase o m X.env (eval o X.env) = eval o X.env
  few : ((backTo aY (starEach [e] X.env)).all (fun x => !x.1) && (backToKw aY (keywordEach [] X.env)).all (fun x => x.1.isSome)
    && decide (([e] : List Expr).length + ([] : List Keyword).length + (if ([] : List Keyword).isEmpty then 0 else 1) < 30)) = true
  line : (apos.endLine == aY.line) = true
  trees : backTo aY (starEach [e] X.env) = [(false, eval e X.env)]
structure M2 (X : Cx) (o : Expr) (m : Str) (apos : Pos) (e f : Expr) (aY : Pos) : Prop where
  base : attributeBase o m X.env (eval o X.env) = eval o X.env
  few : ((backTo aY (starEach [e, f] X.env)).all (fun x => !x.1) && (backToKw aY (keywordEach [] X.env)).all (fun x => x.1.isSome)
    && decide (([e, f] : List Expr).length + ([] : List Keyword).length + (if ([] : List Keyword).isEmpty then 0 else 1) < 30)) = true
  line : (apos.endLine == aY.line) = true
  trees : backTo aY (starEach [e, f] X.env) = [(false, eval e X.env), (false, eval f X.env)]
inductive Dv where
  | int (i : Int) | bl (b : Bool) | aq | str (z : Str) | tup (xs : List Dv) | lst (xs : List Dv) | set (ns : List Int) | ptr (a : Addr) | exc (C : Addr) | bh (ns : List Int) | raw (v : V) | dk (ks : List Key) (ds : List Dv) | dt (ks : List (List Key)) (ds : List Dv) | bC (f : Addr) (o : Obj) (c : Addr) (oc : Obj) (vs : List V) (ds : List Dv)
inductive Mo where
  | lst (xs : List Dv) | cF | dk (ks : List Key) (ds : List Dv) | dt (ks : List (List Key)) (ds : List Dv)
noncomputable abbrev Mh := Addr → Option Mo
structure cG where
  g : List Addr
  l : List (Addr × Str)
instance : Membership Addr cG := ⟨fun t a => a ∈ t.g⟩
noncomputable def Ct : HO → Bool
  | .cz _ => true
  | .lam _ => true
  | .dK _ => true
  | .dT _ => true
  | _ => false
noncomputable def y0 : HO → Bool
  | .cz _ => false
  | _ => true
noncomputable def i5 : HO → Bool
  | .dK _ => true
  | .dT _ => true
  | _ => false
theorem Rd.map {H H' : Hp} {a : Addr} {u : HO} (e : Rd H a u) (k : ∀ x, H a = some x → H' a = some x) : Rd H' a u := e.imp (k _) fun ⟨o, h⟩ => ⟨o, k _ h⟩
theorem Rd.GA {H H' : Hp} {a : Addr} {u : HO} (e : Rd H a u) (hu : i5 u = true) (k : ∀ x, y0 x = true → H a = some x → H' a = some x) : Rd H' a u := e.imp (k _ (by cases u <;> first | rfl | cases hu)) fun ⟨o, h⟩ => ⟨o, k _ rfl h⟩
theorem Rd.there {H : Hp} {a : Addr} {u : HO} (e : Rd H a u) : ∃ x, H a = some x := e.elim (fun h => ⟨_, h⟩) fun ⟨o, h⟩ => ⟨_, h⟩
noncomputable def Tg (o o' : HO) : Prop := (∃ ps gh : Array Value, o = .cz ps ∧ o' = .cz gh ∧ TriplesOk gh.toList) ∨ (∃ ps gh : Array Value, o = .lam ps ∧ o' = .lam gh) ∨ (i5 o = true ∧ ∃ ob, o' = .bA ob o)
theorem Tg.trans {a b c : HO} (x : Tg a b) (y : Tg b c) : Tg a c := by
  rcases x with ⟨p, q, rfl, rfl, t⟩ | ⟨p, q, rfl, rfl⟩ | ⟨hd, ob, rfl⟩
  · rcases y with ⟨p2, q2, e, rfl, t2⟩ | ⟨p2, q2, e, _⟩ | ⟨e, _⟩
    · exact .inl ⟨p, q2, rfl, rfl, t2⟩
    · cases e
    · cases e
  · rcases y with ⟨p2, q2, e, _⟩ | ⟨p2, q2, e, rfl⟩ | ⟨e, _⟩
    · cases e
    · exact .inr (.inl ⟨p, q2, rfl, rfl⟩)
    · cases e
  · rcases y with ⟨p2, q2, e, _⟩ | ⟨p2, q2, e, _⟩ | ⟨e, _⟩ <;> cases e
theorem Tg.tab {a b : HO} (x : Tg a b) : Ct a = true := by
  rcases x with ⟨p, q, rfl, rfl, _⟩ | ⟨p, q, rfl, rfl⟩ | ⟨hd, ob, rfl⟩
  · rfl
  · rfl
  · cases a <;> first | rfl | cases hd
noncomputable def LI (H : Hp) (q : Str) (cv : Value) : Prop := ∃ (c : Addr) (oc : Obj) (u : HO) (vs : Array Value) (t : Tok), cv = Value.ref c ∧ H c = some (.bA oc u) ∧ oc.data = .fields vs ∧ vs[1]? = some (Value.str q t)
noncomputable def Lm (H : Hp) (p : Addr × Str) : Prop := ∃ ps : Array Value, H p.1 = some (.lam ps) ∧ TriplesOk ps.toList ∧ ∀ pos cv, codeAmong pos ps.toList = some cv → LI H p.2 cv
theorem Lm.keep {H H' : Hp} {p : Addr × Str} (h : Lm H p) (k1 : ∀ ps, H p.1 = some (.lam ps) → H' p.1 = some (.lam ps)) (k2 : ∀ c oc u, H c = some (.bA oc u) → H' c = some (.bA oc u)) : Lm H' p := by
  obtain ⟨ps, e, t, c⟩ := h
  refine ⟨ps, k1 _ e, t, fun pos cv q => ?_⟩
  obtain ⟨a, oc, u, vs, tk, e1, e2, r⟩ := c pos cv q
  exact ⟨a, oc, u, vs, tk, e1, k2 _ _ _ e2, r⟩
structure Bz where
  P : Program
  w : World
  K : PySem.W.Frag
  tb : cG
  hid : List Addr
noncomputable def Fz (β : Bz) (M : Mh) (a : Addr) : Prop := M a = none ∧ a ∉ β.hid
noncomputable def Kl (K : PySem.W.Frag) (a : Addr) (ns : List Int) : Prop := ∃ (o : Obj) (its : Array Value) (n : Nat), K.lookup a = some o ∧ o.cls = .type "list" ∧ o.dict = none ∧ o.data = .seq its n ∧ its.size ≤ sizeLine ∧ Vals (ns.map V.int) its.toList
inductive Rz (β : Bz) (M : Mh) (H : Hp) : V → Dv → Prop where
  | int (i : Int) : Rz β M H (.int i) (.int i)
  | bl (b : Bool) : Rz β M H (.bl b) (.bl b)
  | aq : Rz β M H .aq .aq
  | str (z : Str) : Rz β M H (.str z) (.str z)
  | tup {a : Addr} {vs : List V} {ds : List Dv} (m : Fz β M a) (e : H a = some (.tup vs)) (hl : vs.length = ds.length) (h : ∀ (i : Nat) (v : V) (d : Dv), vs[i]? = some v → ds[i]? = some d → Rz β M H v d) : Rz β M H (.ref a) (.tup ds)
  | lst {a : Addr} {vs : List V} {ds : List Dv} (m : Fz β M a) (e : H a = some (.lst vs)) (hl : vs.length = ds.length) (h : ∀ (i : Nat) (v : V) (d : Dv), vs[i]? = some v → ds[i]? = some d → Rz β M H v d) : Rz β M H (.ref a) (.lst ds)
  | set {a : Addr} {ns : List Int} (m : Fz β M a) (e : H a = some (fE β.P β.w a ns)) : Rz β M H (.ref a) (.set ns)
  | ptr {a : Addr} (m : (M a).isSome = true) : Rz β M H (.ref a) (.ptr a)
  | exc {a C : Addr} (m : Fz β M a) (e : H a = some (LC C a)) : Rz β M H (.ref a) (.exc C)
  | bh {a : Addr} {o : Obj} {ns : List Int} (m : Fz β M a) (e : H a = some (.bA o (.lst (ns.map V.int)))) : Rz β M H (.ref a) (.bh ns)
  | b8 {a : Addr} {ns : List Int} (m : Fz β M a) (e : H a = some (.lst (ns.map V.int))) : Rz β M H (.ref a) (.bh ns)
  | b9 {a : Addr} {ns : List Int} (e : Kl β.K a ns) : Rz β M H (.ref a) (.bh ns)
  | raw (v : V) : Rz β M H v (.raw v)
  | dk {a : Addr} {ks : List Key} {vs : List V} {ds : List Dv} (m : Fz β M a) (e : Rd H a (.dK (ks.zip vs))) (hk : ks.length = vs.length) (hl : vs.length = ds.length) (h : ∀ (i : Nat) (v : V) (d : Dv), vs[i]? = some v → ds[i]? = some d → Rz β M H v d) : Rz β M H (.ref a) (.dk ks ds)
  | dt {a : Addr} {ks : List (List Key)} {vs : List V} {ds : List Dv} (m : Fz β M a) (e : Rd H a (.dT (ks.zip vs))) (hk : ks.length = vs.length) (hl : vs.length = ds.length) (h : ∀ (i : Nat) (v : V) (d : Dv), vs[i]? = some v → ds[i]? = some d → Rz β M H v d) : Rz β M H (.ref a) (.dt ks ds)
  | bC {f c : Addr} {o oc : Obj} {u uc : HO} {vs : List V} {ds : List Dv} (m : Fz β M f) (e : H f = some (.bA o u)) (m2 : Fz β M c) (e2 : H c = some (.bA oc uc)) (hl : vs.length = ds.length) (h : ∀ (i : Nat) (v : V) (d : Dv), vs[i]? = some v → ds[i]? = some d → Rz β M H v d) : Rz β M H (.ref f) (.bC f o c oc vs ds)
structure aD (β : Bz) (M : Mh) (H : Hp) (vs : List V) (ds : List Dv) : Prop where
  len : vs.length = ds.length
  at' : ∀ (i : Nat) (v : V) (d : Dv), vs[i]? = some v → ds[i]? = some d → Rz β M H v d
noncomputable def g6 (β : Bz) (M : Mh) (H : Hp) (a : Addr) : Mo → Prop
  | .lst ds => ∃ vs, H a = some (.lst vs) ∧ aD β M H vs ds
  | .cF => IM H a
  | .dk ks ds => ∃ vs, H a = some (.dK (ks.zip vs)) ∧ ks.length = vs.length ∧ aD β M H vs ds
  | .dt ks ds => ∃ vs, H a = some (.dT (ks.zip vs)) ∧ ks.length = vs.length ∧ aD β M H vs ds
noncomputable def lq : HO → Bool
  | .lst _ => true
  | .set _ _ => true
  | .dK _ => true
  | .dT _ => true
  | .ext _ => true
  | .cz _ => true
  | _ => false
noncomputable def wA (H : Hp) (a : Addr) : Prop := ∃ o, H a = some o ∧ lq o = true
theorem wA.upd {H : Hp} {a p : Addr} {o : HO} (h : wA H a) (d : H p = none ∨ lq o = true) : wA (upd H p o) a := by
  obtain ⟨u, e, n⟩ := h
  by_cases z : a = p
  · subst z
    rcases d with d | d
    · rw [e] at d; cases d
    · exact ⟨o, ay, d⟩
  · exact ⟨u, by rw [ae z]; exact e, n⟩
structure Mz (β : Bz) (M : Mh) (H : Hp) : Prop where
  obj : ∀ a o, M a = some o → g6 β M H a o
  tabs : Ce β.tb.g H
  hids : ∀ a ∈ β.hid, wA H a
  apart : ∀ a o, M a = some o → a ∉ β.hid
  lams : ∀ p ∈ β.tb.l, Lm H p
structure Ey (M : Mh) (H : Hp) (M' : Mh) (H' : Hp) : Prop where
  keep : ∀ b o, M b = none → H b = some o → H' b = some o ∨ ∃ o', Tg o o' ∧ H' b = some o'
  dom : ∀ a, (M a).isSome = true → (M' a).isSome = true
  new : ∀ a o, M a = none → H a = some o → M' a = none
structure Ex (β : Bz) (M : Mh) (H : Hp) (M' : Mh) (H' : Hp) : Prop extends Ey M H M' H' where
  mz : Mz β M' H'
section
variable {β : Bz} {M M1 M2 : Mh} {H H1 H2 : Hp}
theorem Ey.refl : Ey M H M H := ⟨fun _ _ _ h => .inl h, fun _ h => h, fun _ _ h _ => h⟩
theorem Ex.refl (m : Mz β M H) : Ex β M H M H := ⟨.refl, m⟩
theorem Ey.trans (x : Ey M H M1 H1) (y : Ey M1 H1 M2 H2) : Ey M H M2 H2 := by
  refine ⟨fun b o hm h => ?_, fun a h => y.dom a (x.dom a h), fun a o hm h => ?_⟩
  · have jQ := x.new b o hm h
    rcases x.keep b o hm h with q | ⟨o1, t, q⟩
    · exact y.keep b o jQ q
    · rcases y.keep b _ jQ q with q2 | ⟨o2, t2, q2⟩
      · exact .inr ⟨o1, t, q2⟩
      · exact .inr ⟨o2, t.trans t2, q2⟩
  · have jQ := x.new a o hm h
    rcases x.keep a o hm h with q | ⟨o1, t, q⟩
    · exact y.new a _ jQ q
    · exact y.new a _ jQ q
theorem Ex.trans (x : Ex β M H M1 H1) (y : Ex β M1 H1 M2 H2) : Ex β M H M2 H2 := ⟨x.toEy.trans y.toEy, y.mz⟩
theorem Ey.get (x : Ey M H M1 H1) {b : Addr} {o : HO} (m : M b = none) (h : H b = some o) (n : Ct o = false) : H1 b = some o := by
  rcases x.keep b o m h with q | ⟨o', e, _⟩
  · exact q
  · rw [e.tab] at n; cases n
theorem Ey.rd (x : Ey M H M1 H1) {b : Addr} {u : HO} (m : M b = none) (h : Rd H b u) (hu : i5 u = true) : Rd H1 b u := by
  rcases h with h | ⟨o, h⟩
  · rcases x.keep b u m h with q | ⟨o', t, q⟩
    · exact .inl q
    · rcases t with ⟨_, _, rfl, _⟩ | ⟨_, _, rfl, _⟩ | ⟨_, ob, rfl⟩
      · cases hu
      · cases hu
      · exact .inr ⟨ob, q⟩
  · exact .inr ⟨o, x.get m h rfl⟩
theorem Ey.gone (x : Ey M H M1 H1) {b : Addr} (h : H1 b = none) : M b = none → H b = none := fun m => by
  cases e : H b with
  | none => rfl
  | some o =>
    rcases x.keep b o m e with q | ⟨_, _, q⟩ <;> (rw [h] at q; cases q)
theorem Rz.ey (x : Ey M H M1 H1) {v : V} {d : Dv} (h : Rz β M H v d) : Rz β M1 H1 v d := by
  induction h with
  | int i => exact .int i
  | bl b => exact .bl b
  | aq => exact .aq
  | str z => exact .str z
  | tup m e hl h ih => exact .tup ⟨x.new _ _ m.1 e, m.2⟩ (x.get m.1 e rfl) hl ih
  | lst m e hl h ih => exact .lst ⟨x.new _ _ m.1 e, m.2⟩ (x.get m.1 e rfl) hl ih
  | dk m e hk hl h ih => exact .dk ⟨x.new _ _ m.1 e.there.choose_spec, m.2⟩ (x.rd m.1 e rfl) hk hl ih
  | dt m e hk hl h ih => exact .dt ⟨x.new _ _ m.1 e.there.choose_spec, m.2⟩ (x.rd m.1 e rfl) hk hl ih
  | bC m e m2 e2 hl h ih => exact .bC ⟨x.new _ _ m.1 e, m.2⟩ (x.get m.1 e rfl) ⟨x.new _ _ m2.1 e2, m2.2⟩ (x.get m2.1 e2 rfl) hl ih
  | set m e => exact .set ⟨x.new _ _ m.1 e, m.2⟩ (x.get m.1 e rfl)
  | ptr m => exact .ptr (x.dom _ m)
  | exc m e => exact .exc ⟨x.new _ _ m.1 e, m.2⟩ (x.get m.1 e rfl)
  | bh m e => exact .bh ⟨x.new _ _ m.1 e, m.2⟩ (x.get m.1 e rfl)
  | b8 m e => exact .b8 ⟨x.new _ _ m.1 e, m.2⟩ (x.get m.1 e rfl)
  | b9 e => exact .b9 e
  | raw v => exact .raw v
theorem Rz.ex (x : Ex β M H M1 H1) {v : V} {d : Dv} (h : Rz β M H v d) : Rz β M1 H1 v d := h.ey x.toEy
theorem aD.ex (x : Ex β M H M1 H1) {vs : List V} {ds : List Dv} (h : aD β M H vs ds) : aD β M1 H1 vs ds := ⟨h.len, fun i v d a b => (h.at' i v d a b).ex x⟩
theorem aD.nil : aD β M H [] [] := ⟨rfl, fun i v d h => by simp at h⟩
theorem aD.cons {v : V} {d : Dv} {vs : List V} {ds : List Dv} (h : Rz β M H v d) (t : aD β M H vs ds) : aD β M H (v :: vs) (d :: ds) := ⟨by simp [t.len], fun i x y a b => by
  cases i with
  | zero => simp at a b; subst a b; exact h
  | succ i => rw [List.getElem?_cons_succ] at a b; exact t.at' i x y a b⟩
theorem aD.head {v : V} {d : Dv} {vs : List V} {ds : List Dv} (h : aD β M H (v :: vs) (d :: ds)) : Rz β M H v d := h.at' 0 v d rfl rfl
theorem aD.tail {v : V} {d : Dv} {vs : List V} {ds : List Dv} (h : aD β M H (v :: vs) (d :: ds)) : aD β M H vs ds := ⟨by simpa using h.len, fun i x y a b => h.at' (i + 1) x y (by rw [List.getElem?_cons_succ]; exact a) (by rw [List.getElem?_cons_succ]; exact b)⟩
theorem aD.append {vs y1 : List V} {ds fT : List Dv} (h : aD β M H vs ds) (t : aD β M H y1 fT) : aD β M H (vs ++ y1) (ds ++ fT) := ⟨by simp [h.len, t.len], fun i x y a b => by
  rw [List.getElem?_append] at a b
  rw [h.len] at a
  split at b
  · rename_i z
    rw [if_pos z] at a
    exact h.at' i x y a b
  · rename_i z
    rw [if_neg z] at a
    exact t.at' _ x y a b⟩
theorem aD.snoc {v : V} {d : Dv} {vs : List V} {ds : List Dv} (t : aD β M H vs ds) (h : Rz β M H v d) : aD β M H (vs ++ [v]) (ds ++ [d]) := t.append (.cons h .nil)
theorem aD.get {vs : List V} {ds : List Dv} (h : aD β M H vs ds) {i : Nat} {d : Dv} (e : ds[i]? = some d) : ∃ v, vs[i]? = some v ∧ Rz β M H v d := by
  have hi := (List.getElem?_eq_some_iff.mp e).1
  have dU : i < vs.length := by rw [h.len]; exact hi
  exact ⟨vs[i], List.getElem?_eq_getElem dU, h.at' i _ _ (List.getElem?_eq_getElem dU) e⟩
theorem aD.get' {vs : List V} {ds : List Dv} (h : aD β M H vs ds) {i : Nat} {v : V} (e : vs[i]? = some v) : ∃ d, ds[i]? = some d ∧ Rz β M H v d := by
  have hi := (List.getElem?_eq_some_iff.mp e).1
  have dU : i < ds.length := by rw [← h.len]; exact hi
  exact ⟨ds[i], List.getElem?_eq_getElem dU, h.at' i _ _ e (List.getElem?_eq_getElem dU)⟩
theorem aD.take {vs : List V} {ds : List Dv} (h : aD β M H vs ds) (n : Nat) : aD β M H (vs.take n) (ds.take n) := ⟨by simp [h.len], fun i x y a b => by
  rw [List.getElem?_take] at a b
  split at a
  · rename_i z; rw [if_pos z] at b; exact h.at' i x y a b
  · cases a⟩
theorem aD.drop {vs : List V} {ds : List Dv} (h : aD β M H vs ds) (n : Nat) : aD β M H (vs.drop n) (ds.drop n) := ⟨by simp [h.len], fun i x y a b => by
  rw [List.getElem?_drop] at a b
  exact h.at' _ x y a b⟩
theorem aD.set {vs : List V} {ds : List Dv} (h : aD β M H vs ds) (n : Nat) {v : V} {d : Dv} (r : Rz β M H v d) : aD β M H (vs.set n v) (ds.set n d) := ⟨by simp [h.len], fun i x y a b => by
  rw [List.getElem?_set] at a b
  rw [h.len] at a
  split at a
  · rename_i z
    rw [if_pos z] at b
    split at a
    · rename_i z2; rw [if_pos z2] at b; cases a; cases b; exact r
    · cases a
  · rename_i z; rw [if_neg z] at b; exact h.at' i x y a b⟩
theorem lr {a : Addr} {vs : List V} {ds : List Dv} (m : Fz β M a) (e : H a = some (.tup vs)) (h : aD β M H vs ds) : Rz β M H (.ref a) (.tup ds) := .tup m e h.len h.at'
theorem oE {a : Addr} {vs : List V} {ds : List Dv} (m : Fz β M a) (e : H a = some (.lst vs)) (h : aD β M H vs ds) : Rz β M H (.ref a) (.lst ds) := .lst m e h.len h.at'
theorem c9 {v : V} {ds : List Dv} (h : Rz β M H v (.tup ds)) : ∃ a vs, v = .ref a ∧ Fz β M a ∧ H a = some (.tup vs) ∧ aD β M H vs ds := by
  cases h with
  | tup m e hl h => exact ⟨_, _, rfl, m, e, hl, h⟩
theorem fU {v : V} {ds : List Dv} (h : Rz β M H v (.lst ds)) : ∃ a vs, v = .ref a ∧ Fz β M a ∧ H a = some (.lst vs) ∧ aD β M H vs ds := by
  cases h with
  | lst m e hl h => exact ⟨_, _, rfl, m, e, hl, h⟩
theorem aL {v : V} {i : Int} (h : Rz β M H v (.int i)) : v = .int i := by cases h; rfl
theorem di {v : V} {b : Bool} (h : Rz β M H v (.bl b)) : v = .bl b := by cases h; rfl
theorem cQ {v : V} {z : Str} (h : Rz β M H v (.str z)) : v = .str z := by cases h; rfl
theorem eG {v : V} (h : Rz β M H v .aq) : v = .aq := by cases h; rfl
theorem y2 {v u : V} (h : Rz β M H v (.raw u)) : v = u := by cases h; rfl
theorem cC {v : V} {a : Addr} (h : Rz β M H v (.ptr a)) : v = .ref a ∧ (M a).isSome = true := by cases h with | ptr m => exact ⟨rfl, m⟩
theorem y3 {v : V} {ns : List Int} (h : Rz β M H v (.set ns)) : ∃ a, v = .ref a ∧ Fz β M a ∧ H a = some (fE β.P β.w a ns) := by cases h with | set m e => exact ⟨_, rfl, m, e⟩
theorem qE {v : V} {ns : List Int} (h : Rz β M H v (.bh ns)) : ∃ a, v = .ref a ∧ bB β.K H a (ns.map V.int) := by
  cases h with
  | bh m e => exact ⟨_, rfl, .inl (.inr ⟨_, e⟩)⟩
  | b8 m e => exact ⟨_, rfl, .inl (.inl e)⟩
  | b9 e => exact ⟨_, rfl, .inr e⟩
noncomputable def nq : HO → Bool
  | .lst _ => true
  | .dK _ => true
  | .dT _ => true
  | _ => false
theorem Mz.own (m : Mz β M H) {a : Addr} {o : Mo} (e : M a = some o) : ∃ u, H a = some u ∧ nq u = true := by
  have q := m.obj a o e
  cases o with
  | lst ds => obtain ⟨vs, q, _⟩ := q; exact ⟨_, q, rfl⟩
  | dk ks ds => obtain ⟨vs, q, _⟩ := q; exact ⟨_, q, rfl⟩
  | dt ks ds => obtain ⟨vs, q, _⟩ := q; exact ⟨_, q, rfl⟩
  | cF => obtain ⟨_, _, q, _⟩ := q; exact ⟨_, q, rfl⟩
theorem Mz.jT (m : Mz β M H) {a : Addr} {u : HO} (h : H a = some u) (n : nq u = false) : M a = none := by
  cases e : M a with
  | none => rfl
  | some o => obtain ⟨u', q, w⟩ := m.own e; rw [h] at q; cases q; rw [n] at w; cases w
theorem Mz.Jb (m : Mz β M H) {p : Addr} (hp : p ∈ β.tb) : M p = none := let ⟨_, h, _⟩ := m.tabs p hp; m.jT h rfl
theorem Mz.GB (m : Mz β M H) {p : Addr × Str} (hp : p ∈ β.tb.l) : M p.1 = none := let ⟨_, h, _⟩ := m.lams p hp; m.jT h rfl
theorem Mz.free (m : Mz β M H) {a : Addr} (h : H a = none) : M a = none := by
  cases e : M a with
  | none => rfl
  | some o => obtain ⟨xs, q, _⟩ := m.own e; rw [h] at q; cases q
theorem Mz.fz (m : Mz β M H) {a : Addr} (h : H a = none) : Fz β M a := ⟨m.free h, fun z => by
  obtain ⟨o, e, _⟩ := m.hids a z
  rw [h] at e
  cases e⟩
theorem Bm {p a : Addr} {o : HO} (h : ∃ u, H a = Option.some u) : ∃ u, upd H p o a = Option.some u := by
  unfold upd
  split
  · exact ⟨_, rfl⟩
  · exact h
theorem Ex.lay (m : Mz β M H) {p : Addr} (h : H p = none) (o : HO) : Ex β M H M (upd H p o) := by
  have pre : ∀ b u, H b = some u → upd H p o b = some u := fun b u q => by rw [ae (aU q h)]; exact q
  have rz : ∀ {v : V} {d : Dv}, Rz β M H v d → Rz β M (upd H p o) v d := fun r => by
    induction r with
    | int i => exact .int i
    | bl b => exact .bl b
    | aq => exact .aq
    | str z => exact .str z
    | tup m e hl h ih => exact .tup m (pre _ _ e) hl ih
    | lst m e hl h ih => exact .lst m (pre _ _ e) hl ih
    | dk m e hk hl h ih => exact .dk m (e.map fun _ h => pre _ _ h) hk hl ih
    | dt m e hk hl h ih => exact .dt m (e.map fun _ h => pre _ _ h) hk hl ih
    | bC m e m2 e2 hl h ih => exact .bC m (pre _ _ e) m2 (pre _ _ e2) hl ih
    | set m e => exact .set m (pre _ _ e)
    | ptr m => exact .ptr m
    | exc m e => exact .exc m (pre _ _ e)
    | bh m e => exact .bh m (pre _ _ e)
    | b8 m e => exact .b8 m (pre _ _ e)
    | b9 e => exact .b9 e
    | raw v => exact .raw v
  refine ⟨⟨fun b u _ q => .inl (pre b u q), fun _ h => h, fun _ _ h _ => h⟩, fun a u e => ?_, fun q hq => ?_, fun a ha => (m.hids a ha).upd (.inl h), m.apart, fun q hq => (m.lams q hq).keep (fun _ e => pre _ _ e) fun _ _ _ e => pre _ _ e⟩
  · have z := m.obj a u e
    cases u with
    | lst ds => obtain ⟨vs, z, l, r⟩ := z; exact ⟨vs, pre _ _ z, l, fun i v d a b => rz (r i v d a b)⟩
    | dk ks ds => obtain ⟨vs, z, hk, l, r⟩ := z; exact ⟨vs, pre _ _ z, hk, l, fun i v d a b => rz (r i v d a b)⟩
    | dt ks ds => obtain ⟨vs, z, hk, l, r⟩ := z; exact ⟨vs, pre _ _ z, hk, l, fun i v d a b => rz (r i v d a b)⟩
    | cF => obtain ⟨c, n, z, r⟩ := z; exact ⟨c, n, pre _ _ z, r⟩
  · obtain ⟨ps, e, t⟩ := m.tabs q hq
    exact ⟨ps, pre _ _ e, t⟩
theorem Ex.grow (m : Mz β M H) {p : Addr} (hp : p ∈ β.tb) {ps : Array Value} (t : TriplesOk ps.toList) : Ex β M H M (upd H p (.cz ps)) := by
  obtain ⟨M6, Kj, t0⟩ := m.tabs p hp
  have pre : ∀ b u, H b = some u → y0 u = true → upd H p (.cz ps) b = some u := fun b u q n => by
    have : b ≠ p := fun z => by subst z; rw [Kj] at q; cases q; cases n
    rw [ae this]; exact q
  have rz : ∀ {v : V} {d : Dv}, Rz β M H v d → Rz β M (upd H p (.cz ps)) v d := fun r => by
    induction r with
    | int i => exact .int i
    | bl b => exact .bl b
    | aq => exact .aq
    | str z => exact .str z
    | tup m e hl h ih => exact .tup m (pre _ _ e rfl) hl ih
    | lst m e hl h ih => exact .lst m (pre _ _ e rfl) hl ih
    | dk m e hk hl h ih => exact .dk m (e.GA rfl fun x hx h => pre _ _ h hx) hk hl ih
    | dt m e hk hl h ih => exact .dt m (e.GA rfl fun x hx h => pre _ _ h hx) hk hl ih
    | bC m e m2 e2 hl h ih => exact .bC m (pre _ _ e rfl) m2 (pre _ _ e2 rfl) hl ih
    | set m e => exact .set m (pre _ _ e rfl)
    | ptr m => exact .ptr m
    | exc m e => exact .exc m (pre _ _ e rfl)
    | bh m e => exact .bh m (pre _ _ e rfl)
    | b8 m e => exact .b8 m (pre _ _ e rfl)
    | b9 e => exact .b9 e
    | raw v => exact .raw v
  refine ⟨⟨fun b u _ q => ?_, fun _ h => h, fun _ _ h _ => h⟩, fun a u e => ?_, fun q hq => ?_, fun a ha => (m.hids a ha).upd (.inr rfl), m.apart, fun q hq => (m.lams q hq).keep (fun _ e => pre _ _ e rfl) fun _ _ _ e => pre _ _ e rfl⟩
  · by_cases e : b = p
    · subst e
      rw [Kj] at q
      cases q
      exact .inr ⟨_, .inl ⟨M6, ps, rfl, rfl, t⟩, ay⟩
    · exact .inl (by rw [ae e]; exact q)
  · have z := m.obj a u e
    cases u with
    | lst ds => obtain ⟨vs, z, l, r⟩ := z; exact ⟨vs, pre _ _ z rfl, l, fun i v d a b => rz (r i v d a b)⟩
    | dk ks ds => obtain ⟨vs, z, hk, l, r⟩ := z; exact ⟨vs, pre _ _ z rfl, hk, l, fun i v d a b => rz (r i v d a b)⟩
    | dt ks ds => obtain ⟨vs, z, hk, l, r⟩ := z; exact ⟨vs, pre _ _ z rfl, hk, l, fun i v d a b => rz (r i v d a b)⟩
    | cF => obtain ⟨c, n, z, r⟩ := z; exact ⟨c, n, pre _ _ z rfl, r⟩
  · by_cases e : q = p
    · subst e; exact ⟨ps, ay, t⟩
    · obtain ⟨p2, e2, t2⟩ := m.tabs q hq
      exact ⟨p2, by rw [ae e]; exact e2, t2⟩
noncomputable def ax (M : Mh) (a : Addr) (o : Mo) : Mh := fun b => if b = a then Option.some o else M b
theorem updM_same {a : Addr} {o : Mo} : ax M a o a = Option.some o := by unfold ax; rw [if_pos rfl]
theorem ak {a b : Addr} {o : Mo} (h : b ≠ a) : ax M a o b = M b := by unfold ax; rw [if_neg h]
theorem updM_updM {a : Addr} {o u : Mo} : ax (ax M a o) a u = ax M a u := by funext b; unfold ax; split <;> rfl
theorem jU {p : Addr} {o : Mo} {u : HO} (hp : (M p).isSome = true ∨ H p = none) {v : V} {d : Dv} (h : Rz β M H v d) : Rz β (ax M p o) (upd H p u) v d := by
  have ne : ∀ a x, M a = none → H a = Option.some x → a ≠ p := fun a x m e z => by
    subst z
    rcases hp with q | q
    · rw [m] at q; cases q
    · rw [q] at e; cases e
  induction h with
  | int i => exact .int i
  | bl b => exact .bl b
  | aq => exact .aq
  | str z => exact .str z
  | tup m e hl h ih => have n := ne _ _ m.1 e; exact .tup ⟨by rw [ak n]; exact m.1, m.2⟩ (by rw [ae n]; exact e) hl ih
  | lst m e hl h ih => have n := ne _ _ m.1 e; exact .lst ⟨by rw [ak n]; exact m.1, m.2⟩ (by rw [ae n]; exact e) hl ih
  | dk m e hk hl h ih => have n := ne _ _ m.1 e.there.choose_spec; exact .dk ⟨by rw [ak n]; exact m.1, m.2⟩ (e.map fun _ h => by rw [ae n]; exact h) hk hl ih
  | dt m e hk hl h ih => have n := ne _ _ m.1 e.there.choose_spec; exact .dt ⟨by rw [ak n]; exact m.1, m.2⟩ (e.map fun _ h => by rw [ae n]; exact h) hk hl ih
  | bC m e m2 e2 hl h ih => have n := ne _ _ m.1 e; have n2 := ne _ _ m2.1 e2; exact .bC ⟨by rw [ak n]; exact m.1, m.2⟩ (by rw [ae n]; exact e) ⟨by rw [ak n2]; exact m2.1, m2.2⟩ (by rw [ae n2]; exact e2) hl ih
  | set m e => have n := ne _ _ m.1 e; exact .set ⟨by rw [ak n]; exact m.1, m.2⟩ (by rw [ae n]; exact e)
  | ptr m =>
    refine .ptr ?_
    unfold ax
    split
    · rfl
    · exact m
  | exc m e => have n := ne _ _ m.1 e; exact .exc ⟨by rw [ak n]; exact m.1, m.2⟩ (by rw [ae n]; exact e)
  | bh m e => have n := ne _ _ m.1 e; exact .bh ⟨by rw [ak n]; exact m.1, m.2⟩ (by rw [ae n]; exact e)
  | b8 m e => have n := ne _ _ m.1 e; exact .b8 ⟨by rw [ak n]; exact m.1, m.2⟩ (by rw [ae n]; exact e)
  | b9 e => exact .b9 e
  | raw v => exact .raw v
theorem g6.upd {p : Addr} {o' : Mo} {u : HO} (hp : (M p).isSome = true ∨ H p = none) {a : Addr} {o : Mo} (ha : a ≠ p) (z : g6 β M H a o) : g6 β (ax M p o') (L2.upd H p u) a o := by
  cases o with
  | lst ds => obtain ⟨vs, z, l, r⟩ := z; exact ⟨vs, by rw [ae ha]; exact z, l, fun i v d a b => jU hp (r i v d a b)⟩
  | dk ks ds => obtain ⟨vs, z, hk, l, r⟩ := z; exact ⟨vs, by rw [ae ha]; exact z, hk, l, fun i v d a b => jU hp (r i v d a b)⟩
  | dt ks ds => obtain ⟨vs, z, hk, l, r⟩ := z; exact ⟨vs, by rw [ae ha]; exact z, hk, l, fun i v d a b => jU hp (r i v d a b)⟩
  | cF => obtain ⟨c, n, z, r⟩ := z; exact ⟨c, n, by rw [ae ha]; exact z, r⟩
theorem Ex.nq (m : Mz β M H) {p : Addr} {u : HO} {o' : Mo} (hp : (M p).isSome = true ∨ H p = none) (hu : lq u = true) (r : g6 β (ax M p o') (upd H p u) p o') : Ex β M H (ax M p o') (upd H p u) := by
  have ne : ∀ a x, M a = none → H a = Option.some x → a ≠ p := fun a x m e z => by
    subst z
    rcases hp with q | q
    · rw [m] at q; cases q
    · rw [q] at e; cases e
  refine ⟨⟨fun b u hm q => .inl ?_, fun a h => ?_, fun a o hm h => ?_⟩, fun a o e => ?_, fun q hq => ?_, fun a ha => (m.hids a ha).upd (.inr hu), fun a o e z => ?_, fun q hq => ?_⟩
  · rw [ae (ne b _ hm q)]; exact q
  · unfold ax
    split
    · rfl
    · exact h
  · rw [ak (ne a _ hm h)]; exact hm
  · by_cases ha : a = p
    · subst ha
      rw [updM_same] at e
      cases e
      exact r
    · rw [ak ha] at e
      exact (m.obj a o e).upd hp ha
  · obtain ⟨ps, e, t⟩ := m.tabs q hq
    exact ⟨ps, by rw [ae (ne q _ (m.Jb hq) e)]; exact e, t⟩
  · by_cases ha : a = p
    · subst ha
      rcases hp with h | h
      · cases q : M a with
        | none => rw [q] at h; cases h
        | some u => exact m.apart a u q z
      · obtain ⟨u, hu, _⟩ := m.hids a z
        rw [h] at hu
        cases hu
    · rw [ak ha] at e
      exact m.apart a o e z
  · exact (m.lams q hq).keep (fun _ e => by rw [ae (ne q.1 _ (m.GB hq) e)]; exact e) fun c _ _ e => by rw [ae (ne c _ (m.jT e rfl) e)]; exact e
theorem Ex.own (m : Mz β M H) {p : Addr} {vs : List V} {ds : List Dv} (hp : (M p).isSome = true ∨ H p = none) (r : aD β M H vs ds) : Ex β M H (ax M p (.lst ds)) (upd H p (.lst vs)) :=
  Ex.nq m hp rfl ⟨vs, ay, r.len, fun i v d a b => jU hp (r.at' i v d a b)⟩
theorem Ex.LJ (m : Mz β M H) {p : Addr} {ks : List Key} {vs : List V} {ds : List Dv} (hp : (M p).isSome = true ∨ H p = none) (hk : ks.length = vs.length) (r : aD β M H vs ds) : Ex β M H (ax M p (.dk ks ds)) (upd H p (.dK (ks.zip vs))) :=
  Ex.nq m hp rfl ⟨vs, ay, hk, r.len, fun i v d a b => jU hp (r.at' i v d a b)⟩
theorem Ex.LK (m : Mz β M H) {p : Addr} {ks : List (List Key)} {vs : List V} {ds : List Dv} (hp : (M p).isSome = true ∨ H p = none) (hk : ks.length = vs.length) (r : aD β M H vs ds) : Ex β M H (ax M p (.dt ks ds)) (upd H p (.dT (ks.zip vs))) :=
  Ex.nq m hp rfl ⟨vs, ay, hk, r.len, fun i v d a b => jU hp (r.at' i v d a b)⟩
noncomputable abbrev Bz.add (β : Bz) (D : Addr) : Bz := { β with hid := D :: β.hid }
theorem Rz.enter {D : Addr} {o : HO} (hD : H D = none) {v : V} {d : Dv} (h : Rz β M H v d) : Rz (β.add D) M (upd H D o) v d := by
  have ne : ∀ a x, Fz β M a → H a = some x → Fz (β.add D) M a := fun a x m e => ⟨m.1, by
    intro z
    rcases List.mem_cons.mp z with z | z
    · subst z; rw [hD] at e; cases e
    · exact m.2 z⟩
  have pre : ∀ a x, H a = some x → upd H D o a = some x := fun a x e => by rw [ae (aU e hD)]; exact e
  induction h with
  | int i => exact .int i
  | bl b => exact .bl b
  | aq => exact .aq
  | str z => exact .str z
  | tup m e hl h ih => exact .tup (ne _ _ m e) (pre _ _ e) hl ih
  | lst m e hl h ih => exact .lst (ne _ _ m e) (pre _ _ e) hl ih
  | dk m e hk hl h ih => exact .dk (ne _ _ m e.there.choose_spec) (e.map fun _ h => pre _ _ h) hk hl ih
  | dt m e hk hl h ih => exact .dt (ne _ _ m e.there.choose_spec) (e.map fun _ h => pre _ _ h) hk hl ih
  | bC m e m2 e2 hl h ih => exact .bC (ne _ _ m e) (pre _ _ e) (ne _ _ m2 e2) (pre _ _ e2) hl ih
  | set m e => exact .set (ne _ _ m e) (pre _ _ e)
  | ptr m => exact .ptr m
  | exc m e => exact .exc (ne _ _ m e) (pre _ _ e)
  | bh m e => exact .bh (ne _ _ m e) (pre _ _ e)
  | b8 m e => exact .b8 (ne _ _ m e) (pre _ _ e)
  | b9 e => exact .b9 e
  | raw v => exact .raw v
theorem Rz.sub {cn : Bz} (hP : cn.P = β.P) (hw : cn.w = β.w) (hK : cn.K = β.K) (hs : ∀ a, a ∈ cn.hid → a ∈ β.hid) {v : V} {d : Dv} (h : Rz β M H v d) : Rz cn M H v d := by
  have ne : ∀ a, Fz β M a → Fz cn M a := fun a m => ⟨m.1, fun z => m.2 (hs a z)⟩
  induction h with
  | int i => exact .int i
  | bl b => exact .bl b
  | aq => exact .aq
  | str z => exact .str z
  | tup m e hl h ih => exact .tup (ne _ m) e hl ih
  | lst m e hl h ih => exact .lst (ne _ m) e hl ih
  | dk m e hk hl h ih => exact .dk (ne _ m) e hk hl ih
  | dt m e hk hl h ih => exact .dt (ne _ m) e hk hl ih
  | bC m e m2 e2 hl h ih => exact .bC (ne _ m) e (ne _ m2) e2 hl ih
  | set m e => exact .set (ne _ m) (by rw [hP, hw]; exact e)
  | ptr m => exact .ptr m
  | exc m e => exact .exc (ne _ m) e
  | bh m e => exact .bh (ne _ m) e
  | b8 m e => exact .b8 (ne _ m) e
  | b9 e => exact .b9 (by rw [hK]; exact e)
  | raw v => exact .raw v
theorem Mz.sub {cn : Bz} (hP : cn.P = β.P) (hw : cn.w = β.w) (hK : cn.K = β.K) (ht : cn.tb = β.tb) (hs : ∀ a, a ∈ cn.hid → a ∈ β.hid) (m : Mz β M H) : Mz cn M H := ⟨fun a o e => by
  have z := m.obj a o e
  cases o with
  | lst ds => obtain ⟨vs, z, l, r⟩ := z; exact ⟨vs, z, l, fun i v d a b => (r i v d a b).sub hP hw hK hs⟩
  | dk ks ds => obtain ⟨vs, z, hk, l, r⟩ := z; exact ⟨vs, z, hk, l, fun i v d a b => (r i v d a b).sub hP hw hK hs⟩
  | dt ks ds => obtain ⟨vs, z, hk, l, r⟩ := z; exact ⟨vs, z, hk, l, fun i v d a b => (r i v d a b).sub hP hw hK hs⟩
  | cF => exact z, by rw [ht]; exact m.tabs, fun a ha => m.hids a (hs a ha), fun a o e z => m.apart a o e (hs a z), by rw [ht]; exact m.lams⟩
theorem Mz.enter {D : Addr} {o : HO} (hD : H D = none) (ho : lq o = true) (m : Mz β M H) : Mz (β.add D) M (upd H D o) := ⟨fun a u e => by
  have pre : ∀ a x, H a = Option.some x → upd H D o a = Option.some x := fun a x e => by rw [ae (aU e hD)]; exact e
  have z := m.obj a u e
  cases u with
  | lst ds => obtain ⟨vs, z, l, r⟩ := z; exact ⟨vs, pre _ _ z, l, fun i v d a b => (r i v d a b).enter hD⟩
  | dk ks ds => obtain ⟨vs, z, hk, l, r⟩ := z; exact ⟨vs, pre _ _ z, hk, l, fun i v d a b => (r i v d a b).enter hD⟩
  | dt ks ds => obtain ⟨vs, z, hk, l, r⟩ := z; exact ⟨vs, pre _ _ z, hk, l, fun i v d a b => (r i v d a b).enter hD⟩
  | cF => obtain ⟨c, n, z, r⟩ := z; exact ⟨c, n, pre _ _ z, r⟩, fun p hp => by
  obtain ⟨ps, e, t⟩ := m.tabs p hp
  exact ⟨ps, by rw [ae (aU e hD)]; exact e, t⟩, fun a ha => by
  rcases List.mem_cons.mp ha with z | z
  · subst z; exact ⟨_, ay, ho⟩
  · exact (m.hids a z).upd (.inl hD), fun a o e ha => by
  rcases List.mem_cons.mp ha with z | z
  · subst z; rw [m.free hD] at e; cases e
  · exact m.apart a o e z, fun q hq => (m.lams q hq).keep (fun _ e => by rw [ae (aU e hD)]; exact e) fun _ _ _ e => by rw [ae (aU e hD)]; exact e⟩
theorem Rz.over {D : Addr} {o : HO} (hD : D ∈ β.hid) {v : V} {d : Dv} (h : Rz β M H v d) : Rz β M (upd H D o) v d := by
  have pre : ∀ a x, Fz β M a → H a = some x → upd H D o a = some x := fun a x m e => by
    have n : a ≠ D := fun z => by subst z; exact m.2 hD
    rw [ae n]; exact e
  induction h with
  | int i => exact .int i
  | bl b => exact .bl b
  | aq => exact .aq
  | str z => exact .str z
  | tup m e hl h ih => exact .tup m (pre _ _ m e) hl ih
  | lst m e hl h ih => exact .lst m (pre _ _ m e) hl ih
  | dk m e hk hl h ih => exact .dk m (e.map fun _ h => pre _ _ m h) hk hl ih
  | dt m e hk hl h ih => exact .dt m (e.map fun _ h => pre _ _ m h) hk hl ih
  | bC m e m2 e2 hl h ih => exact .bC m (pre _ _ m e) m2 (pre _ _ m2 e2) hl ih
  | set m e => exact .set m (pre _ _ m e)
  | ptr m => exact .ptr m
  | exc m e => exact .exc m (pre _ _ m e)
  | bh m e => exact .bh m (pre _ _ m e)
  | b8 m e => exact .b8 m (pre _ _ m e)
  | b9 e => exact .b9 e
  | raw v => exact .raw v
theorem Mz.over {D : Addr} {o : HO} (hD : D ∈ β.hid) (ho : lq o = true) (hM : M D = none) (ht : D ∉ β.tb) (m : Mz β M H) : Mz β M (upd H D o) := ⟨fun a u e => by
  have na : a ≠ D := fun z => by subst z; rw [hM] at e; cases e
  have z := m.obj a u e
  cases u with
  | lst ds => obtain ⟨vs, z, l, r⟩ := z; exact ⟨vs, by rw [ae na]; exact z, l, fun i v d a b => (r i v d a b).over hD⟩
  | dk ks ds => obtain ⟨vs, z, hk, l, r⟩ := z; exact ⟨vs, by rw [ae na]; exact z, hk, l, fun i v d a b => (r i v d a b).over hD⟩
  | dt ks ds => obtain ⟨vs, z, hk, l, r⟩ := z; exact ⟨vs, by rw [ae na]; exact z, hk, l, fun i v d a b => (r i v d a b).over hD⟩
  | cF => obtain ⟨c, n, z, r⟩ := z; exact ⟨c, n, by rw [ae na]; exact z, r⟩, fun p hp => by
  obtain ⟨ps, e, t⟩ := m.tabs p hp
  have n : p ≠ D := fun z => by subst z; exact ht hp
  exact ⟨ps, by rw [ae n]; exact e, t⟩, fun a ha => (m.hids a ha).upd (.inr ho), m.apart, fun q hq => by
  obtain ⟨o', e', n⟩ := m.hids D hD
  exact (m.lams q hq).keep (fun _ e => by rw [ae (fun z => by subst z; rw [e'] at e; cases e; cases n)]; exact e) fun c _ _ e => by rw [ae (fun z => by subst z; rw [e'] at e; cases e; cases n)]; exact e⟩
theorem Ey.over {D : Addr} {o : HO} (x : Ey M H M1 H1) (hD : H D = none) : Ey M H M1 (upd H1 D o) := ⟨fun b u m h => by
  have nb : b ≠ D := aU h hD
  rw [ae nb]
  exact x.keep b u m h, x.dom, x.new⟩
theorem Mz.Bn {D : Addr} (m : Mz β M H) (hD : H D = none) : D ∉ β.tb := fun z => by
  obtain ⟨_, e, _⟩ := m.tabs D z
  rw [hD] at e
  cases e
structure Bx (β cn : Bz) (H : Hp) : Prop where
  P : cn.P = β.P
  w : cn.w = β.w
  K : cn.K = β.K
  tb : cn.tb = β.tb
  old : ∀ a, a ∈ β.hid → a ∈ cn.hid
  new : ∀ a, a ∈ cn.hid → a ∈ β.hid ∨ H a = none
theorem Bx.refl : Bx β β H := ⟨rfl, rfl, rfl, rfl, fun _ h => h, fun _ h => .inl h⟩
theorem Bx.add {D : Addr} (hD : H D = none) : Bx β (β.add D) H := ⟨rfl, rfl, rfl, rfl, fun _ h => List.mem_cons_of_mem _ h, fun a h => by
  rcases List.mem_cons.mp h with z | z
  · exact .inr (z ▸ hD)
  · exact .inl z⟩
theorem Rz.bx {cn : Bz} (b : Bx β cn H) {v : V} {d : Dv} (h : Rz β M H v d) : Rz cn M H v d := by
  have ne : ∀ a x, Fz β M a → H a = some x → Fz cn M a := fun a x m e => ⟨m.1, fun z => by
    rcases b.new a z with q | q
    · exact m.2 q
    · rw [q] at e; cases e⟩
  induction h with
  | int i => exact .int i
  | bl b => exact .bl b
  | aq => exact .aq
  | str z => exact .str z
  | tup m e hl h ih => exact .tup (ne _ _ m e) e hl ih
  | lst m e hl h ih => exact .lst (ne _ _ m e) e hl ih
  | dk m e hk hl h ih => exact .dk (ne _ _ m e.there.choose_spec) e hk hl ih
  | dt m e hk hl h ih => exact .dt (ne _ _ m e.there.choose_spec) e hk hl ih
  | bC m e m2 e2 hl h ih => exact .bC (ne _ _ m e) e (ne _ _ m2 e2) e2 hl ih
  | set m e => exact .set (ne _ _ m e) (by rw [b.P, b.w]; exact e)
  | ptr m => exact .ptr m
  | exc m e => exact .exc (ne _ _ m e) e
  | bh m e => exact .bh (ne _ _ m e) e
  | b8 m e => exact .b8 (ne _ _ m e) e
  | b9 e => exact .b9 (by rw [b.K]; exact e)
  | raw v => exact .raw v
end
inductive Pin (M : Mh) : Dv → Prop where
  | int (i : Int) : Pin M (.int i)
  | bl (b : Bool) : Pin M (.bl b)
  | aq : Pin M .aq
  | str (z : Str) : Pin M (.str z)
  | tup {ds : List Dv} (h : ∀ d ∈ ds, Pin M d) : Pin M (.tup ds)
  | lst {ds : List Dv} (h : ∀ d ∈ ds, Pin M d) : Pin M (.lst ds)
  | set (ns : List Int) : Pin M (.set ns)
  | ptr {a : Addr} (h : (M a).isSome = true) : Pin M (.ptr a)
  | exc (C : Addr) : Pin M (.exc C)
  | bh (ns : List Int) : Pin M (.bh ns)
  | raw (v : V) : Pin M (.raw v)
  | dk {ks : List Key} {ds : List Dv} (h : ∀ d ∈ ds, Pin M d) : Pin M (.dk ks ds)
  | dt {ks : List (List Key)} {ds : List Dv} (h : ∀ d ∈ ds, Pin M d) : Pin M (.dt ks ds)
  | bC {f c : Addr} {o oc : Obj} {vs : List V} {ds : List Dv} (h : ∀ d ∈ ds, Pin M d) : Pin M (.bC f o c oc vs ds)
theorem Rz.pin {β : Bz} {M : Mh} {H : Hp} {v : V} {d : Dv} (h : Rz β M H v d) : Pin M d := by
  induction h with
  | int i => exact .int i
  | bl b => exact .bl b
  | aq => exact .aq
  | str z => exact .str z
  | tup m e hl h ih =>
    refine .tup fun d hd => ?_
    obtain ⟨i, hi⟩ := List.mem_iff_getElem?.mp hd
    have h1 := (List.getElem?_eq_some_iff.mp hi).1
    exact ih i _ d (List.getElem?_eq_getElem (by omega)) hi
  | lst m e hl h ih =>
    refine .lst fun d hd => ?_
    obtain ⟨i, hi⟩ := List.mem_iff_getElem?.mp hd
    have h1 := (List.getElem?_eq_some_iff.mp hi).1
    exact ih i _ d (List.getElem?_eq_getElem (by omega)) hi
  | dk m e hk hl h ih =>
    refine .dk fun d hd => ?_
    obtain ⟨i, hi⟩ := List.mem_iff_getElem?.mp hd
    have h1 := (List.getElem?_eq_some_iff.mp hi).1
    exact ih i _ d (List.getElem?_eq_getElem (by omega)) hi
  | dt m e hk hl h ih =>
    refine .dt fun d hd => ?_
    obtain ⟨i, hi⟩ := List.mem_iff_getElem?.mp hd
    have h1 := (List.getElem?_eq_some_iff.mp hi).1
    exact ih i _ d (List.getElem?_eq_getElem (by omega)) hi
  | bC m e m2 e2 hl h ih =>
    refine .bC fun d hd => ?_
    obtain ⟨i, hi⟩ := List.mem_iff_getElem?.mp hd
    have h1 := (List.getElem?_eq_some_iff.mp hi).1
    exact ih i _ d (List.getElem?_eq_getElem (by omega)) hi
  | set m e => exact .set _
  | ptr m => exact .ptr m
  | exc m e => exact .exc _
  | bh m e => exact .bh _
  | b8 m e => exact .bh _
  | b9 e => exact .bh _
  | raw v => exact .raw v
noncomputable def Mo.items : Mo → List Dv
  | .lst ds => ds
  | .dk _ ds => ds
  | .dt _ ds => ds
  | .cF => []
noncomputable def Wf (M : Mh) : Prop := ∀ b o, M b = some o → ∀ d ∈ o.items, Pin M d
theorem g6.M7 {β : Bz} {M : Mh} {H : Hp} {a : Addr} {o : Mo} (h : g6 β M H a o) : ∃ vs, aD β M H vs o.items := by
  cases o with
  | lst ds => obtain ⟨vs, _, rs⟩ := h; exact ⟨vs, rs⟩
  | dk ks ds => obtain ⟨vs, _, _, rs⟩ := h; exact ⟨vs, rs⟩
  | dt ks ds => obtain ⟨vs, _, _, rs⟩ := h; exact ⟨vs, rs⟩
  | cF => exact ⟨[], .nil⟩
theorem Mz.wf {β : Bz} {M : Mh} {H : Hp} (m : Mz β M H) : Wf M := fun b o e d hd => by
  obtain ⟨vs, rs⟩ := (m.obj b _ e).M7
  obtain ⟨i, hi⟩ := List.mem_iff_getElem?.mp hd
  obtain ⟨v, _, r⟩ := rs.get hi
  exact r.pin
noncomputable abbrev aA := List (Option Dv)
noncomputable abbrev ZK := Dv → Mh → Prop
noncomputable abbrev aK := aA → Mh → ZK → Prop
noncomputable abbrev cH := aA → Mh → (Bool → Mh → Prop) → Prop
noncomputable abbrev ez := aA → Mh → (List Dv → Mh → Prop) → Prop
structure gm where
  nx : aA → Mh → Prop
  rt : ZK
  bk : aA → Mh → Prop := fun _ _ => False
  ct : aA → Mh → Prop := fun _ _ => False
noncomputable abbrev cp := gm → aA → Mh → Prop
noncomputable abbrev cq := Dv → aA → Mh → (aA → Mh → Prop) → Prop
noncomputable abbrev lu := List Dv → aA → Mh → (aA → Mh → Prop) → Prop
noncomputable abbrev eJ := aA → Mh → (List Dv → Mh → Prop) → Prop
structure Gz extends Bz where
  M0 : Mh
  H0 : Hp
structure Zr (Γ : Gz) (β : Bz) (M : Mh) (ρ : aA) (σ : St) (H : Hp) : Prop where
  eP : β.P = Γ.P
  ew : β.w = Γ.w
  eK : β.K = Γ.K
  et : β.tb = Γ.tb
  sub : ∀ a, a ∈ Γ.hid → a ∈ β.hid
  wf : Wf Γ.M0
  ent : Ey Γ.M0 Γ.H0 M H
  mz : Mz β M H
  len : ρ.length = σ.length
  at' : ∀ (i : Nat) (d : Dv), ρ[i]? = some (some d) → ∃ v, σ[i]? = some (some v) ∧ Rz β M H v d
section
variable {Γ : Gz} {β : Bz} {M M' : Mh} {ρ : aA} {σ : St} {H H' : Hp}
theorem Zr.step (z : Zr Γ β M ρ σ H) (x : Ex β M H M' H') : Zr Γ β M' ρ σ H' := ⟨z.eP, z.ew, z.eK, z.et, z.sub, z.wf, z.ent.trans x.toEy, x.mz, z.len, fun i d e => let ⟨v, h, r⟩ := z.at' i d e; ⟨v, h, r.ex x⟩⟩
theorem Zr.set (z : Zr Γ β M ρ σ H) (i : Nat) {v : V} {d : Dv} (r : Rz β M H v d) : Zr Γ β M (ρ.set i (some d)) (σ.set i (some v)) H := ⟨z.eP, z.ew, z.eK, z.et, z.sub, z.wf, z.ent, z.mz, by simp [z.len], fun j e h => by
  rw [List.getElem?_set] at h ⊢
  rw [z.len] at h
  split at h
  · rename_i q
    rw [if_pos q]
    split at h
    · rename_i q2
      rw [if_pos q2]
      cases h
      exact ⟨v, rfl, r⟩
    · cases h
  · rename_i q
    rw [if_neg q]
    exact z.at' j e h⟩
end
noncomputable def lE (Γ : Gz) (p : aK) : TE := fun σ H Q => ∃ (β : Bz) (ρ : aA) (M : Mh) (Q' : ZK), Zr Γ β M ρ σ H ∧ p ρ M Q' ∧ ∀ d M' v H', Ex β M H M' H' → Rz β M' H' v d → Q' d M' → Q v H'
noncomputable def lT (Γ : Gz) (p : cH) : TT := fun σ H Q => ∃ (β : Bz) (ρ : aA) (M : Mh) (Q' : Bool → Mh → Prop), Zr Γ β M ρ σ H ∧ p ρ M Q' ∧ ∀ b M' H', Ex β M H M' H' → Q' b M' → Q b H'
noncomputable def lA (Γ : Gz) (p : ez) : TA := fun σ H Q => ∃ (β : Bz) (ρ : aA) (M : Mh) (Q' : List Dv → Mh → Prop), Zr Γ β M ρ σ H ∧ p ρ M Q' ∧ ∀ ds M' vs H', Ex β M H M' H' → aD β M' H' vs ds → Q' ds M' → Q vs H'
structure Ev (β : Bz) (M : Mh) (H : Hp) (M' : Mh) (H' : Hp) : Prop where
  keep : ∀ b o, M b = none → H b = some o → H' b = some o ∨ ∃ o', Tg o o' ∧ H' b = some o'
  new : ∀ a o, M a = none → H a = some o → M' a = none
  mz : Mz β M' H'
theorem Ex.ev {β : Bz} {M M' : Mh} {H H' : Hp} (x : Ex β M H M' H') : Ev β M H M' H' := ⟨x.keep, x.new, x.mz⟩
theorem Ev.refl {β : Bz} {M : Mh} {H : Hp} (m : Mz β M H) : Ev β M H M H := (Ex.refl m).ev
theorem Ev.trans {β : Bz} {M M1 M2 : Mh} {H H1 H2 : Hp} (x : Ev β M H M1 H1) (y : Ev β M1 H1 M2 H2) : Ev β M H M2 H2 := by
  refine ⟨fun b o hm h => ?_, fun a o hm h => ?_, y.mz⟩
  · have jQ := x.new b o hm h
    rcases x.keep b o hm h with q | ⟨o1, t, q⟩
    · exact y.keep b o jQ q
    · rcases y.keep b _ jQ q with q2 | ⟨o2, t2, q2⟩
      · exact .inr ⟨o1, t, q2⟩
      · exact .inr ⟨o2, t.trans t2, q2⟩
  · have jQ := x.new a o hm h
    rcases x.keep a o hm h with q | ⟨o1, t, q⟩
    · exact y.new a _ jQ q
    · exact y.new a _ jQ q
structure wB (Γ : Gz) (β : Bz) (M : Mh) (H : Hp) (D' : gm) (D : Ends) : Prop where
  nx : ∀ bD M' aH H', Ev β M H M' H' → Zr Γ β M' bD aH H' → D'.nx bD M' → D.nx aH H'
  rt : ∀ d M' v H', Ev β M H M' H' → Ey Γ.M0 Γ.H0 M' H' → Rz β M' H' v d → D'.rt d M' → D.rt v H'
  bk : ∀ bD M' aH H', Ev β M H M' H' → Zr Γ β M' bD aH H' → D'.bk bD M' → D.bk aH H'
  ct : ∀ bD M' aH H', Ev β M H M' H' → Zr Γ β M' bD aH H' → D'.ct bD M' → D.ct aH H'
theorem wB.step {Γ : Gz} {β : Bz} {M M1 : Mh} {H H1 : Hp} {D' : gm} {D : Ends} (r : wB Γ β M H D' D) (x : Ev β M H M1 H1) : wB Γ β M1 H1 D' D :=
  ⟨fun a b c d y => r.nx a b c d (x.trans y), fun a b c d y => r.rt a b c d (x.trans y), fun a b c d y => r.bk a b c d (x.trans y), fun a b c d y => r.ct a b c d (x.trans y)⟩
noncomputable def lS (Γ : Gz) (p : cp) : TS := fun D σ H => ∃ (β : Bz) (ρ : aA) (M : Mh) (D' : gm), Zr Γ β M ρ σ H ∧ p D' ρ M ∧ wB Γ β M H D' D
noncomputable def lG (Γ : Gz) (p : cq) : TG := fun x σ H N => ∃ (β : Bz) (d : Dv) (ρ : aA) (M : Mh) (N' : aA → Mh → Prop), Zr Γ β M ρ σ H ∧ Rz β M H x d ∧ p d ρ M N' ∧ ∀ bD M' aH H', Ex β M H M' H' → Zr Γ β M' bD aH H' → N' bD M' → N aH H'
noncomputable def M8 (Γ : Gz) (p : lu) : nS := fun xs σ H N => ∃ (β : Bz) (ds : List Dv) (ρ : aA) (M : Mh) (N' : aA → Mh → Prop), Zr Γ β M ρ σ H ∧ aD β M H xs ds ∧ p ds ρ M N' ∧ ∀ bD M' aH H', Ex β M H M' H' → Zr Γ β M' bD aH H' → N' bD M' → N aH H'
noncomputable def y4 (β : Bz) (J : It) (ds : List Dv) (M : Mh) (H : Hp) : Prop := ∀ cn M' H', Bx β cn H → Ey M H M' H' → Mz cn M' H' → ∀ i, (i < ds.length → J.go i H' ∧ ∀ x jV, J.yld i H' x jV → Ex cn M' H' M' jV ∧ ∃ d, ds[i]? = some d ∧ Rz cn M' jV x d) ∧ (ds.length ≤ i → J.stop i H')
noncomputable def lI (Γ : Gz) (p : eJ) : TI := fun σ H R => ∃ (β : Bz) (ρ : aA) (M : Mh) (R' : List Dv → Mh → Prop), Zr Γ β M ρ σ H ∧ p ρ M R' ∧ ∀ ds M' H' J, Ex β M H M' H' → y4 β J ds M' H' → R' ds M' → R J H'
noncomputable abbrev QE (Γ : Gz) (X : Cx) (e : Expr) (p : aK) : Prop := PE X e (lE Γ p)
noncomputable abbrev QT (Γ : Gz) (X : Cx) (e : Expr) (p : cH) : Prop := PT X e (lT Γ p)
noncomputable abbrev QW (Γ : Gz) (X : Cx) (e : Expr) (p : cH) : Prop := PW X e (lT Γ p)
noncomputable abbrev QA (Γ : Gz) (X : Cx) (es : List Expr) (p : ez) : Prop := PA X es (lA Γ p)
noncomputable abbrev QS (Γ : Gz) (X : Cx) (s : Stmt) (p : cp) : Prop := PS X s (lS Γ p)
noncomputable abbrev kH (Γ : Gz) (X : Cx) (s : List Stmt) (p : cp) : Prop := fQ X s (lS Γ p)
noncomputable abbrev QG (Γ : Gz) (X : Cx) (e : Expr) (p : cq) : Prop := PG X e (lG Γ p)
noncomputable abbrev Cu (Γ : Gz) (X : Cx) (e : List Expr) (p : lu) : Prop := qa X e (M8 Γ p)
noncomputable abbrev QI (Γ : Gz) (X : Cx) (tg e : Expr) (p : eJ) : Prop := PI X tg e (lI Γ p)
section
variable {X : Cx}
theorem PE.imp {e : Expr} {t t' : TE} (h : PE X e t) (i : ∀ σ H Q, t' σ H Q → t σ H Q) : PE X e t' := ⟨fun pins s σ H Q I q => h pins s σ H Q I (i _ _ _ q)⟩
theorem PT.imp {e : Expr} {t t' : TT} (h : PT X e t) (i : ∀ σ H Q, t' σ H Q → t σ H Q) : PT X e t' := ⟨fun pins s σ H Q I q => h pins s σ H Q I (i _ _ _ q)⟩
theorem PW.imp {e : Expr} {t t' : TT} (h : PW X e t) (i : ∀ σ H Q, t' σ H Q → t σ H Q) : PW X e t' := fun wh pins s σ H Q I q => h wh pins s σ H Q I (i _ _ _ q)
theorem PA.imp {e : List Expr} {t t' : TA} (h : PA X e t) (i : ∀ σ H Q, t' σ H Q → t σ H Q) : PA X e t' := ⟨fun pos pins s σ H Q I q => h pos pins s σ H Q I (i _ _ _ q)⟩
theorem PS.imp {e : Stmt} {t t' : TS} (h : PS X e t) (i : ∀ D σ H, t' D σ H → t D σ H) : PS X e t' := ⟨fun pins s σ H D I q => h pins s σ H D I (i _ _ _ q)⟩
theorem fQ.imp {e : List Stmt} {t t' : TS} (h : fQ X e t) (i : ∀ D σ H, t' D σ H → t D σ H) : fQ X e t' := ⟨fun pins s σ H D I q => h pins s σ H D I (i _ _ _ q)⟩
theorem PG.imp {e : Expr} {t t' : TG} (h : PG X e t) (i : ∀ v σ H Q, t' v σ H Q → t v σ H Q) : PG X e t' := fun pins s σ H v u Q I r q => h pins s σ H v u Q I r (i _ _ _ _ q)
theorem qa.imp {e : List Expr} {t t' : nS} (h : qa X e t) (i : ∀ v σ H Q, t' v σ H Q → t v σ H Q) : qa X e t' := fun pins s σ H v u Q I r q => h pins s σ H v u Q I r (i _ _ _ _ q)
theorem PI.imp {tg e : Expr} {t t' : TI} (h : PI X tg e t) (i : ∀ σ H Q, t' σ H Q → t σ H Q) : PI X tg e t' := fun pins s σ H Q I q => h pins s σ H Q I (i _ _ _ q)
theorem iU.imp {e : List Expr} {t t' : TT} (h : iU X e t) (i : ∀ σ H Q, t' σ H Q → t σ H Q) : iU X e t' := fun pins s σ H Q I q => h pins s σ H Q I (i _ _ _ q)
variable {Γ : Gz} {a b c : Expr} {pa pb pc : aK} {pos : Pos}
noncomputable def zVar (i : Nat) : aK := fun ρ M Q => match ρ[i]? with | some (some d) => Q d M | _ => False
noncomputable def zC (d : Dv) : aK := fun _ M Q => Q d M
theorem GC {i : Nat} {x : Str} (hN : X.N[i]? = some x) (hv : mH X.env.scope x) (hd : (x == ("__debug__" : Str)) = false := by decide) (dA : (x == ("__classdict__" : Str)) = false := by decide) : QE Γ X (.Name x pos) (zVar i) :=
  (rS hN hv hd dA).imp fun σ H Q ⟨β, ρ, M, Q', z, h, q⟩ => by
    unfold zVar at h
    split at h
    · rename_i d e
      obtain ⟨v, e2, r⟩ := z.at' i d e
      exact ⟨v, e2, q d M v H (.refl z.mz) r h⟩
    · exact h.elim
theorem qc {e : Expr} {v : V} {d : Dv} (h : PE X e (tC v)) (r : ∀ β M H, Rz β M H v d) : QE Γ X e (zC d) := h.imp fun σ H Q ⟨β, ρ, M, Q', z, h, q⟩ => q d M v H (.refl z.mz) (r β M H) h
theorem av {i j pos} : QE Γ X (.Constant (.int i) j pos) (zC (.int i)) := qc EE fun _ _ _ => .int _
theorem gp {b j pos} : QE Γ X (.Constant (.bool b) j pos) (zC (.bl b)) := qc Ik fun _ _ _ => .bl _
theorem lx {j pos} : QE Γ X (.Constant .none j pos) (zC .aq) := qc EF fun _ _ _ => .aq
theorem ly {x j pos} : QE Γ X (.Constant (.str x) j pos) (zC (.str x)) := qc EG fun _ _ _ => .str _
theorem Bo {x : Str} {i : Int} {u : Value} (hg : Gl X x) (hm : X.mg x = some u) (r : RelV (.int i) u) (hd : (x == ("__debug__" : Str)) = false := by decide) : QE Γ X (.Name x pos) (zC (.int i)) := qc (uN hg hm r hd) fun _ _ _ => .int _
theorem Bp {x z : Str} {u : Value} (hg : Gl X x) (hm : X.mg x = some u) (r : RelV (.str z) u) (hd : (x == ("__debug__" : Str)) = false := by decide) : QE Γ X (.Name x pos) (zC (.str z)) := qc (uN hg hm r hd) fun _ _ _ => .str _
theorem iM {x : Str} {v : V} {u : Value} (hg : Gl X x) (hm : X.mg x = none) (hv : bootBuiltins x = some u) (r : RelV v u) (hn : x ≠ "__name__" := by decide) (hd : (x == ("__debug__" : Str)) = false := by decide) : QE Γ X (.Name x pos) (zC (.raw v)) := qc (C5 hg hm hv r hn hd) fun _ _ _ => .raw _
noncomputable abbrev dZ := Dv → Dv → Mh → ZK → Prop
noncomputable def oF (Γ : Gz) (r : R2) (z : dZ) : Prop := ∀ (β : Bz) x y d e M H Q Q', β.P = Γ.P → β.w = Γ.w → β.K = Γ.K → Mz β M H → Rz β M H x d → Rz β M H y e → z d e M Q' → (∀ d' M' v H', Ex β M H M' H' → Rz β M' H' v d' → Q' d' M' → Q v H') → r x y H Q
noncomputable def du (Γ : Gz) (X : Cx) (f : Value → Value → Sem Value) (z : dZ) : Prop := ∃ r, OpR X f r ∧ oF Γ r z
noncomputable def zOp (z : dZ) (pa pb : aK) : aK := fun ρ M Q => pa ρ M fun d M1 => pb ρ M1 fun e M2 => z d e M2 Q
theorem wC {r : R2} {z : dZ} (hz : oF Γ r z) {σ : St} {H : Hp} {Q : VK} (h : lE Γ (zOp z pa pb) σ H Q) : xU r (lE Γ pa) (lE Γ pb) σ H Q := by
  obtain ⟨β, ρ, M, Q', zr, h, q⟩ := h
  exact ⟨β, ρ, M, _, zr, h, fun d M1 v H1 x1 r1 h1 => ⟨β, ρ, M1, _, zr.step x1, h1, fun e M2 u H2 x2 r2 h2 => hz β v u d e M2 H2 Q Q' zr.eP zr.ew zr.eK x2.mz (r1.ex x2) r2 h2 fun d' M' v' H' x3 r3 q3 => q _ _ _ _ (x1.trans (x2.trans x3)) r3 q3⟩⟩
theorem aR {op : Operator} {z : dZ} (ho : du Γ X (binaryOp op) z) (ha : QE Γ X a pa) (hb : QE Γ X b pb) : QE Γ X (.BinOp a op b pos) (zOp z pa pb) := by
  obtain ⟨r, h1, h2⟩ := ho
  exact (Iv h1 ha hb).imp fun σ H Q h => wC h2 h
theorem DP {op : CmpOp} {z : dZ} (ho : du Γ X (compareOp op) z) (ha : QE Γ X a pa) (hb : QE Γ X b pb) (hm : behindInMarks op b = false) : QE Γ X (.Compare a [op] [b] pos) (zOp z pa pb) := by
  obtain ⟨r, h1, h2⟩ := ho
  exact (Di h1 ha hb hm).imp fun σ H Q h => wC h2 h
noncomputable def zBool (Q : Bool → Mh → Prop) : ZK := fun d M => match d with | .bl k => Q k M | _ => False
theorem i6 {Q : Bool → Mh → Prop} {d : Dv} {M : Mh} (h : zBool Q d M) : ∃ k, d = .bl k ∧ Q k M := by
  unfold zBool at h
  split at h
  · exact ⟨_, rfl, h⟩
  · exact h.elim
noncomputable def zTest (p : aK) : cH := fun ρ M Q => p ρ M (zBool Q)
theorem sQ {p : aK} {t : TE} (i : ∀ σ H Q, lE Γ p σ H Q → t σ H Q) {σ : St} {H : Hp} {Q : Bool → Hp → Prop} (h : lT Γ (zTest p) σ H Q) : vM t σ H Q := by
  obtain ⟨β, ρ, M, Q', zr, h, q⟩ := h
  refine i _ _ _ ⟨β, ρ, M, _, zr, h, fun d M1 v H1 x1 r1 h1 => ?_⟩
  obtain ⟨k, rfl, h2⟩ := i6 h1
  exact ⟨k, di r1, q k M1 H1 x1 h2⟩
theorem aW {op : CmpOp} {z : dZ} (ho : du Γ X (compareOp op) z) (ha : QE Γ X a pa) (hb : QE Γ X b pb) (hm : behindInMarks op b = false) : QT Γ X (.Compare a [op] [b] pos) (zTest (zOp z pa pb)) := by
  obtain ⟨r, h1, h2⟩ := ho
  exact (Dj h1 ha hb hm).imp fun σ H Q h => sQ (fun _ _ _ => wC h2) h
theorem g7 {e : Expr} {p : aK} (h : QE Γ X e p) (he : ∀ whole, isTrue e X.env whole = (do let v ← whole; standAt e.pos; holding [v] (truthy v)) := by intro _; rfl) : QT Γ X e (zTest p) :=
  (EH h he).imp fun σ H Q h => sQ (fun _ _ _ h => h) h
noncomputable def zChain (z z' : dZ) (pa pb pc : aK) : aK := fun ρ M Q => pa ρ M fun x M1 => pb ρ M1 fun y M2 => z x y M2 (zBool fun k M3 => if k = true then pc ρ M3 fun u M4 => z' y u M4 Q else Q (.bl false) M3)
theorem va {r r' : R2} {z z' : dZ} (hz : oF Γ r z) (M9 : oF Γ r' z') {σ : St} {H : Hp} {Q : VK} (h : lE Γ (zChain z z' pa pb pc) σ H Q) : rW r r' (lE Γ pa) (lE Γ pb) (lE Γ pc) σ H Q := by
  obtain ⟨β, ρ, M, Q', zr, h, q⟩ := h
  refine ⟨β, ρ, M, _, zr, h, fun d M1 v H1 x1 r1 h1 => ⟨β, ρ, M1, _, zr.step x1, h1, fun e M2 u H2 x2 r2 h2 => hz β v u d e M2 H2 _ _ zr.eP zr.ew zr.eK x2.mz (r1.ex x2) r2 h2 fun d' M3 v' H3 x3 r3 h3 => ?_⟩⟩
  obtain ⟨k, rfl, h4⟩ := i6 h3
  have i7 := x1.trans (x2.trans x3)
  refine ⟨k, di r3, ?_⟩
  cases k with
  | true =>
    rw [if_pos rfl] at h4 ⊢
    exact ⟨β, ρ, M3, _, zr.step i7, h4, fun f M4 g H4 x4 r4 h5 => M9 β u g e f M4 H4 _ _ zr.eP zr.ew zr.eK x4.mz ((r2.ex x3).ex x4) r4 h5 fun d5 M5 v5 H5 x5 r5 q5 => q _ _ _ _ (i7.trans (x4.trans x5)) r5 q5⟩
  | false =>
    rw [if_neg Bool.false_ne_true] at h4 ⊢
    exact q _ _ _ _ i7 (.bl _) h4
theorem Bq {op iS : CmpOp} {z z' : dZ} (ho : du Γ X (compareOp op) z) (gz : du Γ X (compareOp iS) z') (ha : QE Γ X a pa) (hb : QE Γ X b pb) (hc : QE Γ X c pc) (hm : lastMarks [op, iS] [b, c] = false := by with_unfolding_all rfl) :
    QE Γ X (.Compare a [op, iS] [b, c] pos) (zChain z z' pa pb pc) := by
  obtain ⟨r, h1, h2⟩ := ho
  obtain ⟨r', GD, GF⟩ := gz
  exact (Aw h1 GD ha hb hc hm).imp fun σ H Q h => va h2 GF h
theorem sR {op iS : CmpOp} {z z' : dZ} (ho : du Γ X (compareOp op) z) (gz : du Γ X (compareOp iS) z') (ha : QE Γ X a pa) (hb : QE Γ X b pb) (hc : QE Γ X c pc) (hm : lastMarks [op, iS] [b, c] = false := by with_unfolding_all rfl) :
    QT Γ X (.Compare a [op, iS] [b, c] pos) (zTest (zChain z z' pa pb pc)) := by
  obtain ⟨r, h1, h2⟩ := ho
  obtain ⟨r', GD, GF⟩ := gz
  exact (Ax h1 GD ha hb hc hm).imp fun σ H Q h => sQ (fun _ _ _ => va h2 GF) h
variable {tA nR : cH} {rest : List Expr}
noncomputable def zAnd (t u : cH) : cH := fun ρ M Q => t ρ M fun c M1 => if c = true then u ρ M1 Q else Q false M1
noncomputable def zOr (t u : cH) : cH := fun ρ M Q => t ρ M fun c M1 => if c = true then Q true M1 else u ρ M1 Q
noncomputable def zNot (t : cH) : cH := fun ρ M Q => t ρ M fun c M1 => Q (!c) M1
theorem mi (ha : QT Γ X a tA) : QW Γ X (.BoolOp .And [a] pos) tA := C6 ha
theorem lz (ha : QT Γ X a tA) : QW Γ X (.BoolOp .Or [a] pos) tA := EI ha
theorem oG (ha : QT Γ X a tA) (hb : QW Γ X (.BoolOp .And (b :: rest) pos) nR) : QW Γ X (.BoolOp .And (a :: b :: rest) pos) (zAnd tA nR) :=
  (EJ ha hb).imp fun σ H Q ⟨β, ρ, M, Q', zr, h, q⟩ => ⟨β, ρ, M, _, zr, h, fun k M1 H1 x1 h1 => by
    cases k with
    | true => rw [if_pos rfl] at h1 ⊢; exact ⟨β, ρ, M1, _, zr.step x1, h1, fun k2 M2 H2 x2 h2 => q _ _ _ (x1.trans x2) h2⟩
    | false => rw [if_neg Bool.false_ne_true] at h1 ⊢; exact q _ _ _ x1 h1⟩
theorem mj (ha : QT Γ X a tA) (hb : QW Γ X (.BoolOp .Or (b :: rest) pos) nR) : QW Γ X (.BoolOp .Or (a :: b :: rest) pos) (zOr tA nR) :=
  (Il ha hb).imp fun σ H Q ⟨β, ρ, M, Q', zr, h, q⟩ => ⟨β, ρ, M, _, zr, h, fun k M1 H1 x1 h1 => by
    cases k with
    | false => rw [if_neg Bool.false_ne_true] at h1 ⊢; exact ⟨β, ρ, M1, _, zr.step x1, h1, fun k2 M2 H2 x2 h2 => q _ _ _ (x1.trans x2) h2⟩
    | true => rw [if_pos rfl] at h1 ⊢; exact q _ _ _ x1 h1⟩
theorem g8 (ha : QT Γ X a tA) : QT Γ X (.UnaryOp .Not a pos) (zNot tA) := (EK ha).imp fun σ H Q ⟨β, ρ, M, Q', zr, h, q⟩ => ⟨β, ρ, M, _, zr, h, fun k M1 H1 x1 h1 => q _ _ _ x1 h1⟩
theorem QW.pt {e : Expr} {t : cH} (h : QW Γ X e t) : QT Γ X e t := PW.pt h
noncomputable def zAndV (pa pb : aK) : aK := fun ρ M Q => pa ρ M (zBool fun c M1 => if c = true then pb ρ M1 Q else Q (.bl false) M1)
noncomputable def zNotV (pa : aK) : aK := fun ρ M Q => pa ρ M (zBool fun c M1 => Q (.bl (!c)) M1)
theorem sS {op} (h : QE Γ X a pa) : QE Γ X (.BoolOp op [a] pos) pa := EL h
theorem sT (ha : QE Γ X a pa) (hb : QE Γ X (.BoolOp .And (b :: rest) pos) pb) : QE Γ X (.BoolOp .And (a :: b :: rest) pos) (zAndV pa pb) :=
  (ER ha hb).imp fun σ H Q ⟨β, ρ, M, Q', zr, h, q⟩ => ⟨β, ρ, M, _, zr, h, fun d M1 v H1 x1 r1 h1 => by
    obtain ⟨k, rfl, h2⟩ := i6 h1
    refine ⟨k, di r1, ?_⟩
    cases k with
    | true => rw [if_pos rfl] at h2 ⊢; exact ⟨β, ρ, M1, _, zr.step x1, h2, fun d2 M2 v2 H2 x2 r2 h2 => q _ _ _ _ (x1.trans x2) r2 h2⟩
    | false => rw [if_neg Bool.false_ne_true] at h2 ⊢; exact q _ _ _ _ x1 (.bl _) h2⟩
theorem GH (ha : QE Γ X a pa) : QE Γ X (.UnaryOp .Not a pos) (zNotV pa) := (EV ha).imp fun σ H Q ⟨β, ρ, M, Q', zr, h, q⟩ => ⟨β, ρ, M, _, zr, h, fun d M1 v H1 x1 r1 h1 => by
    obtain ⟨k, rfl, h2⟩ := i6 h1
    exact ⟨k, di r1, q _ _ _ _ x1 (.bl _) h2⟩⟩
noncomputable def zNil : ez := fun _ M Q => Q [] M
noncomputable def zCons (p : aK) (r : ez) : ez := fun ρ M Q => p ρ M fun d M1 => r ρ M1 fun ds M2 => Q (d :: ds) M2
variable {es : List Expr} {za : ez}
theorem ah : QA Γ X [] zNil := Fo.imp fun σ H Q ⟨β, ρ, M, Q', zr, h, q⟩ => q [] M [] H (.refl zr.mz) .nil h
theorem aa {e : Expr} (ha : QE Γ X e pa) (hr : QA Γ X es za) (hs : starEach (e :: es) X.env = (false, eval e X.env) :: starEach es X.env := by rfl) : QA Γ X (e :: es) (zCons pa za) :=
  (md ha hr hs).imp fun σ H Q ⟨β, ρ, M, Q', zr, h, q⟩ => ⟨β, ρ, M, _, zr, h, fun d M1 v H1 x1 r1 h1 => ⟨β, ρ, M1, _, zr.step x1, h1, fun ds M2 vs H2 x2 r2 h2 => q _ _ _ _ (x1.trans x2) (.cons (r1.ex x2) r2) h2⟩⟩
noncomputable def zTup (p : ez) : aK := fun ρ M Q => p ρ M fun ds M1 => ds.length ≤ sizeLine ∧ Q (.tup ds) M1
noncomputable def zLst (p : ez) : aK := fun ρ M Q => p ρ M fun ds M1 => ds.length ≤ sizeLine ∧ Q (.lst ds) M1
noncomputable def zLstP (p : ez) : aK := fun ρ M Q => p ρ M fun ds M1 => ds.length ≤ sizeLine ∧ ∀ a, M1 a = none → Q (.ptr a) (ax M1 a (.lst ds))
theorem sU {x1} (h : QA Γ X es za) : QE Γ X (.Tuple es x1 pos) (zTup za) := (Fp h).imp fun σ H Q ⟨β, ρ, M, Q', zr, h, q⟩ => ⟨β, ρ, M, _, zr, h, fun ds M1 vs H1 x1 r1 h1 => ⟨by rw [r1.len]; exact h1.1, fun p hp => by
    have x2 := Ex.lay x1.mz hp (.tup vs)
    exact q _ _ _ _ (x1.trans x2) (lr (x1.mz.fz hp) ay (r1.ex x2)) h1.2⟩⟩
theorem y6 (h : QA Γ X es za) : QE Γ X (.List es pos) (zLst za) := (ya h).imp fun σ H Q ⟨β, ρ, M, Q', zr, h, q⟩ => ⟨β, ρ, M, _, zr, h, fun ds M1 vs H1 x1 r1 h1 => ⟨by rw [r1.len]; exact h1.1, fun p hp => by
    have x2 := Ex.lay x1.mz hp (.lst vs)
    exact q _ _ _ _ (x1.trans x2) (oE (x1.mz.fz hp) ay (r1.ex x2)) h1.2⟩⟩
theorem pF (h : QA Γ X es za) : QE Γ X (.List es pos) (zLstP za) := (ya h).imp fun σ H Q ⟨β, ρ, M, Q', zr, h, q⟩ => ⟨β, ρ, M, _, zr, h, fun ds M1 vs H1 x1 r1 h1 => ⟨by rw [r1.len]; exact h1.1, fun p hp => by
    have x2 := Ex.own x1.mz (.inr hp) r1
    exact q _ _ _ _ (x1.trans x2) (.ptr (by rw [updM_same]; rfl)) (h1.2 p (x1.mz.free hp))⟩⟩
noncomputable abbrev qF := List Dv → Mh → ZK → Prop
noncomputable def Cv (Γ : Gz) (r : List V → Hp → VK → Prop) (z : qF) : Prop := ∀ (β : Bz) xs ds M H Q Q', β.P = Γ.P → β.w = Γ.w → β.K = Γ.K → Mz β M H → aD β M H xs ds → z ds M Q' → (∀ d' M' v H', Ex β M H M' H' → Rz β M' H' v d' → Q' d' M' → Q v H') → r xs H Q
noncomputable def fx (Γ : Gz) (X : Cx) (f : Value) (z : qF) : Prop := ∃ r, cW X f r ∧ Cv Γ r z
noncomputable def zCB (z : qF) (p : ez) : aK := fun ρ M Q => p ρ M fun ds M1 => z ds M1 Q
theorem GI {r : List V → Hp → VK → Prop} {z : qF} (hz : Cv Γ r z) {σ : St} {H : Hp} {Q : VK} (h : lE Γ (zCB z za) σ H Q) : Fs r (lA Γ za) σ H Q := by
  obtain ⟨β, ρ, M, Q', zr, h, q⟩ := h
  exact ⟨β, ρ, M, _, zr, h, fun ds M1 vs H1 x1 r1 h1 => hz β vs ds M1 H1 _ _ zr.eP zr.ew zr.eK x1.mz r1 h1 fun d' M' v' H' x2 r2 q2 => q _ _ _ _ (x1.trans x2) r2 q2⟩
variable {st : Stmt} {Kk : List Stmt} {p p2 : cp} {e : Expr} {pe : aK}
noncomputable def zNext : cp := fun D ρ M => D.nx ρ M
noncomputable def zSeq (p q : cp) : cp := fun D ρ M => p { D with nx := q D } ρ M
theorem qss_nil : kH Γ X [] zNext := C7.imp fun D σ H ⟨β, ρ, M, D', zr, h, r⟩ => r.nx ρ M σ H (.refl zr.mz) zr h
theorem ao (h1 : QS Γ X st p) (h2 : kH Γ X Kk p2) : kH Γ X (st :: Kk) (zSeq p p2) := (An h1 h2).imp fun D σ H ⟨β, ρ, M, D', zr, h, r⟩ =>
  ⟨β, ρ, M, _, zr, h, fun bD M' aH H' x eL h' => ⟨β, bD, M', D', eL, h', r.step x⟩, r.rt, r.bk, r.ct⟩
theorem aw (h1 : QS Γ X st p) : kH Γ X [st] p := C8 h1
noncomputable def zDrop (p : aK) : cp := fun D ρ M => p ρ M fun _ M1 => D.nx ρ M1
theorem mn (he : QE Γ X e pe) (hs : swapsWith e none pos.line X.env = pure false := by rfl) : QS Γ X (.Expr e pos) (zDrop pe) := (C9 he hs).imp fun D σ H ⟨β, ρ, M, D', zr, h, r⟩ =>
  ⟨β, ρ, M, _, zr, h, fun d M1 v H1 x1 r1 h1 => r.nx ρ M1 σ H1 x1.ev (zr.step x1) h1⟩
noncomputable def zRet (p : aK) : cp := fun D ρ M => p ρ M D.rt
theorem aX (he : QE Γ X e pe) : QS Γ X (.Return (some e) pos) (zRet pe) := (EW he).imp fun D σ H ⟨β, ρ, M, D', zr, h, r⟩ => ⟨β, ρ, M, _, zr, h, fun d M' v H' x r1 h1 => r.rt _ _ _ _ x.ev (zr.ent.trans x.toEy) r1 h1⟩
noncomputable def zIfS (c : cH) (p q : cp) : cp := fun D ρ M => c ρ M fun b M1 => if b = true then p D ρ M1 else q D ρ M1
theorem cw {as bs : List Stmt} {pa pb : cp} (hc : QT Γ X c tA) (ha : kH Γ X as pa) (hb : kH Γ X bs pb) : QS Γ X (.If c as bs pos) (zIfS tA pa pb) := (Ir hc ha hb).imp fun D σ H ⟨β, ρ, M, D', zr, h, r⟩ =>
  ⟨β, ρ, M, _, zr, h, fun k M1 H1 x1 h1 => by
    cases k with
    | true => rw [if_pos rfl] at h1 ⊢; exact ⟨β, ρ, M1, D', zr.step x1, h1, r.step x1.ev⟩
    | false => rw [if_neg Bool.false_ne_true] at h1 ⊢; exact ⟨β, ρ, M1, D', zr.step x1, h1, r.step x1.ev⟩⟩
noncomputable def zgName (i : Nat) : cq := fun d ρ M N => N (ρ.set i (some d)) M
theorem aM {i : Nat} {x : Str} (hN : X.N.Nodup) (hi : X.N[i]? = some x) (hx : Loc X.env.scope x) (hf : X.fn x = true ∨ X.env.scope.names.lookup x = some .local := by first | exact .inl rfl | exact .inr rfl | assumption) : QG Γ X (.Name x pos) (zgName i) :=
  (Dc hN hi hx hf).imp fun v σ H N ⟨β, d, ρ, M, N', zr, r, h, q⟩ => q _ _ _ _ (.refl zr.mz) (zr.set i r) h
noncomputable def zgNil : lu := fun ds ρ M N => match ds with | [] => N ρ M | _ => False
noncomputable def zgCons (g : cq) (u : lu) : lu := fun ds ρ M N => match ds with | d :: r => g d ρ M fun bD M' => u r bD M' N | [] => False
theorem mq : Cu Γ X [] zgNil := Dd.imp fun vs σ H N ⟨β, ds, ρ, M, N', zr, r, h, q⟩ => by
  unfold zgNil at h
  split at h
  · have e : vs = [] := List.length_eq_zero_iff.mp r.len
    exact ⟨e, q _ _ _ _ (.refl zr.mz) zr h⟩
  · exact h.elim
theorem eO {g : cq} {u : lu} (h1 : QG Γ X e g) (h2 : Cu Γ X es u) (hs : (assignEach (e :: es) X.env).map (·.2) = assign e X.env :: (assignEach es X.env).map (·.2) := by rfl) : Cu Γ X (e :: es) (zgCons g u) :=
  (Ap h1 h2 hs).imp fun vs σ H N ⟨β, ds, ρ, M, N', zr, r, h, q⟩ => by
    unfold zgCons at h
    split at h
    · rename_i d rest
      cases vs with
      | nil => exact absurd r.len (by simp)
      | cons v vs => exact ⟨v, vs, rfl, β, d, ρ, M, _, zr, r.head, h, fun bD M' aH H' x eL h' => ⟨β, rest, bD, M', N', eL, r.tail.ex x, h', fun a b c d y => q a b c d (x.trans y)⟩⟩
    · exact h.elim
noncomputable def zgTup (n : Nat) (u : lu) : cq := fun d ρ M N => match d with | .tup ds => ds.length = n ∧ u ds ρ M N | _ => False
theorem oH {k : Nat} {u : lu} {n : Nat} (hc : X.calm = true) (h : Cu Γ X es u) (hn : (assignEach es X.env).length = n := by rfl) (mJ : (assignEach es X.env).findIdx? (·.1) = none := by rfl) : QG Γ X (.Tuple es k pos) (zgTup n u) :=
  (EY hc h hn mJ).imp fun v σ H N ⟨β, d, ρ, M, N', zr, r, h, q⟩ => by
    unfold zgTup at h
    split at h
    · obtain ⟨a, vs, rfl, m, e, rs⟩ := c9 r
      exact ⟨a, vs, rfl, ck.of e, by rw [rs.len]; exact h.1, β, _, ρ, M, N', zr, rs, h.2, q⟩
    · exact h.elim
noncomputable def zAsg (p : aK) (g : cq) : cp := fun D ρ M => p ρ M fun d M1 => g d ρ M1 D.nx
theorem Jc {g : cq} {D : Ends} {σ : St} {H : Hp} (h : lS Γ (zAsg pe g) D σ H) : pf (lE Γ pe) (lG Γ g) D σ H := by
  obtain ⟨β, ρ, M, D', zr, h, r⟩ := h
  exact ⟨β, ρ, M, _, zr, h, fun d M1 v H1 x1 r1 h1 => ⟨β, d, ρ, M1, D'.nx, zr.step x1, r1, h1, fun bD M' aH H' x eL h' => r.nx _ _ _ _ (x1.trans x).ev eL h'⟩⟩
theorem i9 {tg : Expr} {g : cq} (he : QE Γ X e pe) (hg : QG Γ X tg g) (hs : swapsWithSole [tg] e pos.line X.env = pure false := by rfl) (hw : swappedStores [tg] e X.env = pure none := by rfl)
    (h1 : (assignEach [tg] X.env).map (·.2) = [assign tg X.env] := by rfl) : QS Γ X (.Assign [tg] e pos) (zAsg pe g) := (E1 he hg hs hw h1).imp fun D σ H h => Jc h
theorem wD {t : TE} (i : ∀ σ H Q, lE Γ pe σ H Q → t σ H Q) {n : Nat} {D : Ends} {σ : St} {H : Hp} (h : lS Γ (zAsg pe (zgName n)) D σ H) : pf t (nU n) D σ H := by
  obtain ⟨β, ρ, M, D', zr, h, r⟩ := h
  exact i _ _ _ ⟨β, ρ, M, _, zr, h, fun d M1 v H1 x1 r1 h1 => r.nx _ _ _ _ x1.ev ((zr.step x1).set n r1) h1⟩
theorem aO {i : Nat} {x : Str} {pos' : Pos} (hN : X.N.Nodup) (hi : X.N[i]? = some x) (hx : Loc X.env.scope x) (he : QE Γ X e pe) (hs : swapsWith e (some (.Name x pos')) pos.line X.env = pure false := by rfl) (hf : X.fn x = true ∨ X.env.scope.names.lookup x = some .local := by first | exact .inl rfl | exact .inr rfl | assumption) :
    QS Γ X (.Assign [.Name x pos'] e pos) (zAsg pe (zgName i)) := (E2 hN hi hx he hs hf).imp fun D σ H h => wD (fun _ _ _ h => h) h
end
section
variable {X : Cx} {Γ : Gz} {β : Bz}
noncomputable def ziTup (p : aK) : eJ := fun ρ M R => p ρ M fun d M1 => match d with | .tup ds => R ds M1 | _ => False
noncomputable def ziLst (p : aK) : eJ := fun ρ M R => p ρ M fun d M1 => match d with | .lst ds => R ds M1 | _ => False
noncomputable def cf (lo : Int) (n : Nat) : List Dv := (List.range n).map fun i => .int (lo + (i : Nat))
noncomputable def ziRng1 (p : ez) : eJ := fun ρ M R => p ρ M fun ds M1 => match ds with | [.int j] => -(2 ^ 62) ≤ j ∧ j < 2 ^ 62 ∧ R (cf 0 j.toNat) M1 | _ => False
noncomputable def ziRng2 (p : ez) : eJ := fun ρ M R => p ρ M fun ds M1 => match ds with | [.int i, .int j] => (-(2 ^ 62) ≤ i ∧ i < 2 ^ 62 ∧ -(2 ^ 62) ≤ j ∧ j < 2 ^ 62) ∧ R (cf i (j - i).toNat) M1 | _ => False
theorem kg {J : It} {vs : List V} {ds : List Dv} {M : Mh} {H : Hp} (r : aD β M H vs ds) (h : ∀ M' H', Ey M H M' H' → Runs J vs H') : y4 β J ds M H := fun cn M' H' bx x m i => by
  have q := h M' H' x i
  rw [← r.len]
  refine ⟨fun hi => ⟨(q.1 hi).1, fun v jV y => ?_⟩, q.2⟩
  obtain ⟨e, hv⟩ := (q.1 hi).2 v jV y
  subst e
  obtain ⟨d, hd, rd⟩ := r.get' hv
  exact ⟨.refl m, d, hd, (rd.bx bx).ey x⟩
variable {tg l : Expr} {p : aK} {pa : ez} {K : PySem.W.Frag}
theorem jW (hK : X.K = K) (hl : QE Γ X l p) : QI Γ X tg l (ziTup p) := (Dw hK hl).imp fun σ H R ⟨β, ρ, M, R', zr, h, q⟩ => ⟨β, ρ, M, _, zr, h, fun d M1 v H1 x1 r1 h1 => by
  revert h1
  split
  · intro h1
    obtain ⟨a, vs, rfl, m, e, rs⟩ := c9 r1
    exact ⟨a, rfl, ⟨_, ck.of e⟩, q _ _ _ _ x1 (kg rs fun M' H' x => AR (ck.of (x.get m.1 e rfl))) h1⟩
  · exact fun h => h.elim⟩
theorem pG (hK : X.K = K) (hl : QE Γ X l p) : QI Γ X tg l (ziLst p) := (AU hK hl).imp fun σ H R ⟨β, ρ, M, R', zr, h, q⟩ => ⟨β, ρ, M, _, zr, h, fun d M1 v H1 x1 r1 h1 => by
  revert h1
  split
  · intro h1
    obtain ⟨a, vs, rfl, m, e, rs⟩ := fU r1
    exact ⟨a, rfl, ⟨_, bB.of e⟩, q _ _ _ _ x1 (kg rs fun M' H' x => yx (bB.of (x.get m.1 e rfl))) h1⟩
  · exact fun h => h.elim⟩
theorem qG {lo : Int} {n : Nat} {M : Mh} {H : Hp} : aD β M H ((List.range n).map fun i => V.int (lo + (i : Nat))) (cf lo n) := ⟨by simp [cf], fun i v d a b => by
  unfold cf at b
  rw [List.getElem?_map] at a b
  cases e : (List.range n)[i]? with
  | none => rw [e] at a; cases a
  | some c => rw [e] at a b; cases a; cases b; exact .int _⟩
theorem d6 {xs : List V} {d : Dv} {M : Mh} {H : Hp} (r : aD β M H xs [d]) : ∃ v, xs = [v] ∧ Rz β M H v d := by
  match xs, r with
  | [v], r => exact ⟨v, rfl, r.head⟩
  | [], r => exact absurd r.len (by simp)
  | _ :: _ :: _, r => exact absurd r.len (by simp)
theorem mr {xs : List V} {d e : Dv} {M : Mh} {H : Hp} (r : aD β M H xs [d, e]) : ∃ v u, xs = [v, u] ∧ Rz β M H v d ∧ Rz β M H u e := by
  match xs, r with
  | [v, u], r => exact ⟨v, u, rfl, r.head, r.tail.head⟩
  | [], r => exact absurd r.len (by simp)
  | [_], r => exact absurd r.len (by simp)
  | _ :: _ :: _ :: _, r => exact absurd r.len (by simp)
section
variable {e e1 e2 : Expr} {pr pos : Pos}
theorem GJ {σ : St} {H : Hp} {R : It → Hp → Prop} (h : lI Γ (ziRng1 pa) σ H R) : B7 (lA Γ pa) σ H R := by
  obtain ⟨β, ρ, M, R', zr, h, q⟩ := h
  refine ⟨β, ρ, M, _, zr, h, fun ds M1 vs H1 x1 r1 h1 => ?_⟩
  revert h1
  split
  · rintro ⟨b1, b2, h1⟩
    obtain ⟨v, rfl, r⟩ := d6 r1
    rw [aL r]
    exact ⟨_, rfl, b1, b2, q _ _ _ _ x1 (kg qG fun M' H' x => oj) h1⟩
  · exact fun h => h.elim
theorem GK {σ : St} {H : Hp} {R : It → Hp → Prop} (h : lI Γ (ziRng2 pa) σ H R) : B8 (lA Γ pa) σ H R := by
  obtain ⟨β, ρ, M, R', zr, h, q⟩ := h
  refine ⟨β, ρ, M, _, zr, h, fun ds M1 vs H1 x1 r1 h1 => ?_⟩
  revert h1
  split
  · rintro ⟨b1, h1⟩
    obtain ⟨v, u, rfl, r, r'⟩ := mr r1
    rw [aL r, aL r']
    exact ⟨_, _, rfl, b1, q _ _ _ _ x1 (kg qG fun M' H' x => oj) h1⟩
  · exact fun h => h.elim
end
noncomputable def zLoop (g : cq) (tb : cp) (D : gm) : List Dv → aA → Mh → Prop
  | [], ρ, M => D.nx ρ M
  | d :: ds, ρ, M => g d ρ M fun jX M2 => tb { D with nx := zLoop g tb D ds, ct := zLoop g tb D ds, bk := D.nx } jX M2
noncomputable def zFor (zi : eJ) (g : cq) (tb : cp) : cp := fun D ρ M => zi ρ M fun ds M1 => zLoop g tb D ds ρ M1
noncomputable def zForM (zi : eJ) (g : cq) (tb : Mh → cp) : cp := fun D ρ M => zi ρ M fun ds M1 => zLoop g (tb M1) D ds ρ M1
theorem Zr.root {M : Mh} {ρ : aA} {σ : St} {H : Hp} (z : Zr Γ β M ρ σ H) : Zr ⟨β, M, H⟩ β M ρ σ H := ⟨rfl, rfl, rfl, rfl, fun _ h => h, z.mz.wf, .refl, z.mz, z.len, z.at'⟩
theorem Zr.y7 {M M1 : Mh} {ρ Km : aA} {σ nV : St} {H H1 : Hp} (z : Zr Γ β M ρ σ H) (y : Zr ⟨β, M, H⟩ β M1 Km nV H1) : Zr Γ β M1 Km nV H1 := ⟨z.eP, z.ew, z.eK, z.et, z.sub, z.wf, z.ent.trans y.ent, y.mz, y.len, y.at'⟩
theorem Jd {zi : eJ} {g : cq} {tb : Mh → cp} {t : TS} (hb : ∀ bu : Gz, bu.P = Γ.P → bu.w = Γ.w → bu.K = Γ.K → bu.tb = Γ.tb → ∀ D σ H, lS bu (tb bu.M0) D σ H → t D σ H) {tg : TG} (hg : ∀ bu : Gz, bu.P = Γ.P → bu.w = Γ.w → bu.K = Γ.K → bu.tb = Γ.tb → ∀ x σ H N, lG bu g x σ H N → tg x σ H N) {D : Ends} {σ : St} {H : Hp} (h : lS Γ (zForM zi g tb) D σ H) : E7 (lI Γ zi) tg t D σ H := by
  obtain ⟨β, ρ, M, D', zr, h, r⟩ := h
  refine ⟨β, ρ, M, _, zr, h, fun ds M1 H1 J x1 it h1 => ?_⟩
  have ir := zr.step x1
  refine ⟨fun i m aH H' => m = ds.length - i ∧ i ≤ ds.length ∧ ∃ bD M', Zr ⟨β, M1, H1⟩ β M' bD aH H' ∧ zLoop g (tb M1) D' (ds.drop i) bD M', ⟨ds.length, rfl, Nat.zero_le _, ρ, M1, ir.root, h1⟩, ?_⟩
  rintro i m aH H' ⟨rfl, hi, bD, M', eL, h'⟩
  have ev : ∀ {M2 : Mh} {jX : aA} {nW : St} {H2 : Hp}, Zr ⟨β, M1, H1⟩ β M2 jX nW H2 → Ev β M H M2 H2 := fun z => x1.ev.trans ⟨z.ent.keep, z.ent.new, z.mz⟩
  by_cases aT : i < ds.length
  · have q := (it β M' H' .refl eL.ent eL.mz i).1 aT
    refine .inr ⟨q.1, fun nW H2 => ∃ jX M2, Zr ⟨β, M1, H1⟩ β M2 jX nW H2 ∧ zLoop g (tb M1) D' (ds.drop (i + 1)) jX M2, fun nW H2 ⟨jX, M2, Cw, h2⟩ => ⟨ds.length - (i + 1), by omega, rfl, aT, jX, M2, Cw, h2⟩, fun v jV y => ?_⟩
    obtain ⟨x2, d, hd, rd⟩ := q.2 v jV y
    have e : ds.drop i = d :: ds.drop (i + 1) := by
      rw [List.drop_eq_getElem_cons aT]
      rw [List.getElem?_eq_getElem aT] at hd
      cases hd
      rfl
    rw [e] at h'
    refine hg ⟨β, M1, H1⟩ zr.eP zr.ew zr.eK zr.et _ _ _ _ ⟨β, d, bD, M', _, eL.step x2, rd, h', fun Nb M3 kG H3 x3 GL h3 => hb ⟨β, M1, H1⟩ zr.eP zr.ew zr.eK zr.et _ _ _ ⟨β, Nb, M3, _, GL, h3, ?_⟩⟩
    exact ⟨fun oI M4 y8 H4 x4 kI h4 => ⟨oI, M4, kI, h4⟩, fun d4 M4 v4 H4 x4 e4 r4 h4 => r.rt _ _ _ _ (x1.ev.trans ⟨e4.keep, e4.new, x4.mz⟩) (ir.ent.trans e4) r4 h4, fun oI M4 y8 H4 x4 kI h4 => r.nx _ _ _ _ (ev kI) (ir.y7 kI) h4, fun oI M4 y8 H4 x4 kI h4 => ⟨oI, M4, kI, h4⟩⟩
  · have e : i = ds.length := by omega
    subst e
    rw [List.drop_length] at h'
    exact .inl ⟨(it β M' H' .refl eL.ent eL.mz _).2 (Nat.le_refl _), r.nx _ _ _ _ (ev eL) (ir.y7 eL) h'⟩
noncomputable def Nc (Γ : Gz) (p : Mh → cp) : TS := fun D σ H => ∃ bu : Gz, bu.P = Γ.P ∧ bu.w = Γ.w ∧ bu.K = Γ.K ∧ bu.tb = Γ.tb ∧ lS bu (p bu.M0) D σ H
noncomputable def Nf (Γ : Gz) (p : cq) : TG := fun x σ H N => ∃ bu : Gz, bu.P = Γ.P ∧ bu.w = Γ.w ∧ bu.K = Γ.K ∧ bu.tb = Γ.tb ∧ lG bu p x σ H N
theorem DQ {body : List Stmt} {iter : Expr} {zi : eJ} {g : cq} {tb : Mh → cp} {pos : Pos} (hp : PassesOwn (model X.prog X.w) X.A X.env X.xe) (hc : X.calm = true) (hi : QI Γ X tg iter zi)
    (Cy : ∀ (bu : Gz) (M1 : Mh), bu.M0 = M1 → bu.P = Γ.P → bu.w = Γ.w → bu.K = Γ.K → bu.tb = Γ.tb → QG bu X tg g ∧ kH bu X body (tb M1))
    (hs : ∀ x, foldedSetIterable iter X.env x = pure x := by intro _; rfl) : QS Γ X (.For tg iter body [] pos) (zForM zi g tb) :=
  (E8 (g := Nf Γ g) (tb := Nc Γ tb) hp hc hi (fun pins s σ H v u Q I r h => by obtain ⟨bu, e1, e2, e3, e4, h⟩ := h; exact (Cy bu _ rfl e1 e2 e3 e4).1 pins s σ H v u Q I r h) ⟨fun pins s σ H D I h => by obtain ⟨bu, e1, e2, e3, e4, h⟩ := h; exact (Cy bu _ rfl e1 e2 e3 e4).2 pins s σ H D I h⟩ hs).imp
    fun D σ H h => Jd (fun bu e1 e2 e3 e4 D σ H h => ⟨bu, e1, e2, e3, e4, h⟩) (fun bu e1 e2 e3 e4 x σ H N h => ⟨bu, e1, e2, e3, e4, h⟩) h
theorem fu {body : List Stmt} {iter : Expr} {zi : eJ} {g : cq} {tb : cp} {pos : Pos} (hp : PassesOwn (model X.prog X.w) X.A X.env X.xe) (hc : X.calm = true) (hi : QI Γ X tg iter zi)
    (Cy : ∀ bu : Gz, bu.P = Γ.P → bu.w = Γ.w → bu.K = Γ.K → bu.tb = Γ.tb → QG bu X tg g ∧ kH bu X body tb)
    (hs : ∀ x, foldedSetIterable iter X.env x = pure x := by intro _; rfl) : QS Γ X (.For tg iter body [] pos) (zFor zi g tb) := DQ (tb := fun _ => tb) hp hc hi (fun bu M1 _ e1 e2 e3 e4 => Cy bu e1 e2 e3 e4) hs
theorem bH {a : Expr} {p pos : Pos} (hg : Gl X "range") (hm : X.mg "range" = none) (ha : QA Γ X [a] pa) (hs : starEach [a] X.env = [(false, eval a X.env)] := by rfl) : QI Γ X tg (.Call (.Name "range" p) [a] [] pos) (ziRng1 pa) := (xR hg hm ha hs).imp fun σ H R h => GJ h
theorem y9 {a b : Expr} {p pos : Pos} (hg : Gl X "range") (hm : X.mg "range" = none) (ha : QA Γ X [a, b] pa) (hs : starEach [a, b] X.env = [(false, eval a X.env), (false, eval b X.env)] := by rfl) (B9 : starEach [b] X.env = [(false, eval b X.env)] := by rfl) :
    QI Γ X tg (.Call (.Name "range" p) [a, b] [] pos) (ziRng2 pa) := (xS hg hm ha hs B9).imp fun σ H R h => GK h
noncomputable def zb (c : cH) (tb : cp) : cp := fun D ρ M => ∃ W : Nat → aA → Mh → Prop, (∃ m, W m ρ M) ∧ ∀ m ρ M, W m ρ M →
  c ρ M fun b M1 => if b = true then tb { D with nx := fun bD M' => ∃ m', m' < m ∧ W m' bD M', ct := fun bD M' => ∃ m', m' < m ∧ W m' bD M', bk := D.nx } ρ M1 else D.nx ρ M1
theorem DR {c : cH} {tb : cp} {D : Ends} {σ : St} {H : Hp} (h : lS Γ (zb c tb) D σ H) : xO (lT Γ c) (lS Γ tb) D σ H := by
  obtain ⟨β, ρ, M, D', zr, ⟨W, ⟨m0, w0⟩, turn⟩, r⟩ := h
  refine ⟨fun m aH H' => ∃ bD M', Ev β M H M' H' ∧ Zr Γ β M' bD aH H' ∧ W m bD M', ⟨m0, ρ, M, .refl zr.mz, zr, w0⟩, ?_⟩
  rintro m aH H' ⟨bD, M', x', eL, w'⟩
  refine ⟨β, bD, M', _, eL, turn m bD M' w', fun k M1 H1 x1 h1 => ?_⟩
  have zf := x'.trans x1.ev
  cases k with
  | true =>
    dsimp only at h1 ⊢
    rw [if_pos rfl] at h1 ⊢
    refine ⟨fun nW H2 => ∃ m', m' < m ∧ ∃ jX M2, Ev β M H M2 H2 ∧ Zr Γ β M2 jX nW H2 ∧ W m' jX M2, fun nW H2 h2 => h2, β, bD, M1, _, eL.step x1, h1, ?_⟩
    exact ⟨fun oI M4 y8 H4 x4 kI ⟨m', hm, w4⟩ => ⟨m', hm, oI, M4, zf.trans x4, kI, w4⟩, fun d4 M4 v4 H4 x4 e4 r4 h4 => r.rt _ _ _ _ (zf.trans x4) e4 r4 h4, fun oI M4 y8 H4 x4 kI h4 => r.nx _ _ _ _ (zf.trans x4) kI h4, fun oI M4 y8 H4 x4 kI ⟨m', hm, w4⟩ => ⟨m', hm, oI, M4, zf.trans x4, kI, w4⟩⟩
  | false =>
    dsimp only at h1 ⊢
    rw [if_neg Bool.false_ne_true] at h1 ⊢
    exact r.nx _ _ _ _ zf (eL.step x1) h1
theorem nu {body : List Stmt} {c : Expr} {zc : cH} {tb : cp} {pos : Pos} (hp : PassesOwn (model X.prog X.w) X.A X.env X.xe) (hc : QT Γ X c zc) (hb : kH Γ X body tb) : QS Γ X (.While c body [] pos) (zb zc tb) := (Aq hp hc hb).imp fun D σ H h => DR h
theorem da {g : cq} {tb : cp} {D : gm} (J : Nat → aA → Mh → Prop) {ds : List Dv} {ρ : aA} {M : Mh} (h0 : J 0 ρ M)
    (hs : ∀ i d ρ M (N : aA → Mh → Prop), ds[i]? = some d → J i ρ M → (∀ bD M', J (i + 1) bD M' → N bD M') → g d ρ M fun jX M2 => tb { D with nx := N, ct := N, bk := D.nx } jX M2)
    (hd : ∀ ρ M, J ds.length ρ M → D.nx ρ M) : zLoop g tb D ds ρ M := by
  have key : ∀ (n i : Nat) ρ M, n = ds.length - i → i ≤ ds.length → J i ρ M → zLoop g tb D (ds.drop i) ρ M := by
    intro n
    induction n with
    | zero =>
      intro i ρ M e hi h
      have : i = ds.length := by omega
      subst this
      rw [List.drop_length]
      exact hd _ _ h
    | succ n ih =>
      intro i ρ M e hi h
      have aT : i < ds.length := by omega
      rw [List.drop_eq_getElem_cons aT]
      exact hs i _ ρ M _ (List.getElem?_eq_getElem aT) h fun ρ M h => ih (i + 1) ρ M (by omega) aT h
  exact key _ 0 ρ M rfl (Nat.zero_le _) h0
end
section
variable {X : Cx} {Γ : Gz} {β : Bz}
noncomputable def zBlock (tn : Nat) (idx : List Nat) (ρ : aA) : aA := List.replicate tn none ++ idx.map fun i => (ρ[i]?).join
theorem Zr.block {M : Mh} {ρ : aA} {σ : St} {H : Hp} (z : Zr Γ β M ρ σ H) (tn : Nat) (idx : List Nat) : Zr Γ β M (zBlock tn idx ρ) (bo tn idx σ) H := ⟨z.eP, z.ew, z.eK, z.et, z.sub, z.wf, z.ent, z.mz, by simp [zBlock, bo], fun i d e => by
  unfold zBlock at e
  unfold bo
  rw [List.getElem?_append] at e ⊢
  rw [List.length_replicate] at e ⊢
  split at e
  · rw [List.getElem?_replicate] at e
    split at e <;> cases e
  · rename_i hi
    rw [if_neg hi]
    rw [List.getElem?_map] at e ⊢
    cases q : idx[i - tn]? with
    | none => rw [q] at e; cases e
    | some j =>
      rw [q] at e
      have e2 : ρ[j]? = some (some d) := by
        simp only [Option.map_some, Option.some.injEq] at e
        cases q2 : ρ[j]? with
        | none => rw [q2] at e; cases e
        | some o => rw [q2] at e; simp only [Option.join_some] at e; rw [e]
      obtain ⟨v, hv, r⟩ := z.at' j d e2
      exact ⟨v, by simp [hv], r⟩⟩
theorem Zr.enter {M : Mh} {ρ : aA} {σ : St} {H : Hp} {D : Addr} {o : HO} (z : Zr Γ β M ρ σ H) (hD : H D = none) (ho : lq o = true) : Zr Γ (β.add D) M ρ σ (upd H D o) :=
  ⟨z.eP, z.ew, z.eK, z.et, fun a h => List.mem_cons_of_mem _ (z.sub a h), z.wf, z.ent.over (z.ent.gone hD (by
    cases e : Γ.M0 D with
    | none => rfl
    | some u => have := z.ent.dom D (by rw [e]; rfl); rw [z.mz.free hD] at this; cases this)), z.mz.enter hD ho, z.len, fun i d e => let ⟨v, h, r⟩ := z.at' i d e; ⟨v, h, r.enter hD⟩⟩
theorem Zr.over {M : Mh} {ρ : aA} {σ : St} {H : Hp} {D : Addr} {o : HO} (z : Zr Γ β M ρ σ H) (hD : D ∈ β.hid) (ho : lq o = true) (hM : M D = none) (ht : D ∉ β.tb) (h0 : Γ.H0 D = none) : Zr Γ β M ρ σ (upd H D o) :=
  ⟨z.eP, z.ew, z.eK, z.et, z.sub, z.wf, z.ent.over h0, z.mz.over hD ho hM ht, z.len, fun i d e => let ⟨v, h, r⟩ := z.at' i d e; ⟨v, h, r.over hD⟩⟩
noncomputable abbrev qH (Γ : Gz) (X : Cx) (ifs : List Expr) (t : cH) : Prop := iU X ifs (lT Γ t)
noncomputable def zNoIf : cH := fun _ M Q => Q true M
theorem cI : qH Γ X [] zNoIf := Dq.imp fun σ H Q ⟨β, ρ, M, Q', zr, h, q⟩ => q true M H (.refl zr.mz) h
theorem vb {c : Expr} {tc : cH} (h : QT Γ X c tc) : qH Γ X [c] tc := Dr h
noncomputable def fH (g : cq) (tt : cH) (te : aK) : List Dv → aA → Mh → (List Dv → Mh → Prop) → Prop
  | [], _, M, Q => Q [] M
  | d :: ds, τ, M, Q => g d τ M fun aB M2 => tt aB M2 fun b M3 => if b = true then te aB M3 fun y M4 => fH g tt te ds aB M4 fun ys M5 => Q (y :: ys) M5 else fH g tt te ds aB M3 Q
structure Acc (Γ : Gz) (β : Bz) (D : Addr) (M1 : Mh) (H1 : Hp) (bZ : aA) (M : Mh) (τ : St) (H : Hp) (acc : List V) (bP : List Dv) : Prop where
  ey : Ey M1 H1 M H
  m : M D = none
  zr : Zr Γ (β.add D) M bZ τ H
  at' : H D = some (.lst acc)
  rs : aD (β.add D) M H acc bP
  h1 : H1 D = none
  h0 : Γ.H0 D = none
  nt : D ∉ β.tb
theorem Acc.start {D : Addr} {M1 : Mh} {H1 : Hp} {bZ : aA} {τ : St} (zr : Zr Γ β M1 bZ τ H1) (hD : H1 D = none) : Acc Γ β D M1 H1 bZ M1 τ (upd H1 D (.lst [])) [] [] :=
  ⟨Ey.refl.over hD, zr.mz.free hD, zr.enter hD rfl, ay, .nil, hD, zr.ent.gone hD (by
    cases e : Γ.M0 D with
    | none => rfl
    | some u => have := zr.ent.dom D (by rw [e]; rfl); rw [zr.mz.free hD] at this; cases this), zr.mz.Bn hD⟩
section
variable {D : Addr} {M1 M M2 : Mh} {H1 H H2 : Hp} {bZ GN : aA} {τ aB : St} {acc : List V} {bP : List Dv}
theorem Acc.step (A : Acc Γ β D M1 H1 bZ M τ H acc bP) (x : Ex (β.add D) M H M2 H2) (z : Zr Γ (β.add D) M2 GN aB H2) : Acc Γ β D M1 H1 GN M2 aB H2 acc bP :=
  ⟨A.ey.trans x.toEy, x.new D _ A.m A.at', z, x.get A.m A.at' rfl, A.rs.ex x, A.h1, A.h0, A.nt⟩
theorem Acc.snoc (A : Acc Γ β D M1 H1 bZ M τ H acc bP) {y : V} {d : Dv} (r : Rz (β.add D) M H y d) : Acc Γ β D M1 H1 bZ M τ (upd H D (.lst (acc ++ [y]))) (acc ++ [y]) (bP ++ [d]) := by
  have hD : D ∈ (β.add D).hid := List.mem_cons_self
  exact ⟨A.ey.over A.h1, A.m, A.zr.over hD rfl A.m A.nt A.h0, ay, ⟨by simp [A.rs.len], fun i v d a b => ((A.rs.snoc r).at' i v d a b).over hD⟩, A.h1, A.h0, A.nt⟩
theorem Acc.fz (A : Acc Γ β D M1 H1 bZ M τ H acc bP) (m1 : Mz β M1 H1) : Fz β M D := ⟨A.m, (m1.fz A.h1).2⟩
theorem Acc.mz (A : Acc Γ β D M1 H1 bZ M τ H acc bP) : Mz β M H := Mz.sub (β := β.add D) (cn := β) rfl rfl rfl rfl (fun a h => List.mem_cons_of_mem _ h) A.zr.mz
theorem Acc.items (A : Acc Γ β D M1 H1 bZ M τ H acc bP) : aD β M H acc bP := ⟨A.rs.len, fun i v d a b => Rz.sub (β := β.add D) (cn := β) rfl rfl rfl (fun a h => List.mem_cons_of_mem _ h) (A.rs.at' i v d a b)⟩
theorem Acc.ex (A : Acc Γ β D M1 H1 bZ M τ H acc bP) : Ex β M1 H1 M H := ⟨A.ey, A.mz⟩
end
noncomputable def zComp (tn : Nat) (idx : List Nat) (zi : eJ) (g : cq) (tt : cH) (te : aK) : aK := fun ρ M Q => zi ρ M fun ds M1 => ds.length < sizeLine ∧ fH g tt te ds (zBlock tn idx ρ) M1 fun ys M2 => Q (.lst ys) M2
noncomputable def zCompP (tn : Nat) (idx : List Nat) (zi : eJ) (g : cq) (tt : cH) (te : aK) : aK := fun ρ M Q => zi ρ M fun ds M1 => ds.length < sizeLine ∧ fH g tt te ds (zBlock tn idx ρ) M1 fun ys M2 => ∀ a, M2 a = none → Q (.ptr a) (ax M2 a (.lst ys))
variable {zi : eJ} {g : cq} {tt : cH} {te : aK} {tn : Nat} {idx : List Nat}
noncomputable def lC (Γ : Gz) (β : Bz) (D : Addr) (M1 : Mh) (H1 : Hp) (g : cq) (tt : cH) (te : aK) (ds : List Dv) (Q' : List Dv → Mh → Prop) (i m : Nat) (τ : St) (H : Hp) : Prop :=
  m = ds.length - i ∧ i ≤ ds.length ∧ ∃ bZ M acc bP, Acc Γ β D M1 H1 bZ M τ H acc bP ∧ acc.length ≤ i ∧ fH g tt te (ds.drop i) bZ M fun ys M2 => Q' (bP ++ ys) M2
theorem qJ {D : Addr} {M1 : Mh} {H1 : Hp} {ds : List Dv} {Q' : List Dv → Mh → Prop} {J : It} (it : y4 β J ds M1 H1) (hlen : ds.length < sizeLine) {i m : Nat} {τ : St} {H : Hp} (w : lC Γ β D M1 H1 g tt te ds Q' i m τ H)
    {C : V → St → Hp → Prop} (hC : ∀ y aB H4 acc, H4 D = some (.lst acc) → acc.length < sizeLine → (∃ m', m' < m ∧ lC Γ β D M1 H1 g tt te ds Q' (i + 1) m' aB (upd H4 D (.lst (acc ++ [y])))) → C y aB H4) :
    (J.stop i H ∧ ∃ bZ M acc bP, Acc Γ β D M1 H1 bZ M τ H acc bP ∧ acc.length < sizeLine ∧ Q' bP M) ∨
    (J.go i H ∧ ∀ x H', J.yld i H x H' → lG Γ g x τ H' fun aB H2 => lT Γ tt aB H2 fun b H3 => if b = true then lE Γ te aB H3 fun y H4 => C y aB H4 else ∃ m', m' < m ∧ lC Γ β D M1 H1 g tt te ds Q' (i + 1) m' aB H3) := by
  obtain ⟨rfl, hi, bZ, M, acc, bP, A, Ga, h⟩ := w
  have q := it (β.add D) M H (.add A.h1) A.ey A.zr.mz i
  by_cases aT : i < ds.length
  · refine .inr ⟨(q.1 aT).1, fun x H' y => ?_⟩
    obtain ⟨x2, d, hd, rd⟩ := (q.1 aT).2 x H' y
    have e : ds.drop i = d :: ds.drop (i + 1) := by
      rw [List.drop_eq_getElem_cons aT]
      rw [List.getElem?_eq_getElem aT] at hd
      cases hd
      rfl
    rw [e] at h
    have A2 := A.step x2 (A.zr.step x2)
    refine ⟨β.add D, d, bZ, M, _, A2.zr, rd, h, fun fI M3 jY H3 x3 z3 h3 => ?_⟩
    have A3 := A2.step x3 z3
    refine ⟨β.add D, fI, M3, _, z3, h3, fun b M4 H4 x4 h4 => ?_⟩
    have A4 := A3.step x4 (z3.step x4)
    cases b with
    | false =>
      dsimp only at h4 ⊢
      rw [if_neg Bool.false_ne_true] at h4 ⊢
      exact ⟨ds.length - (i + 1), by omega, rfl, aT, fI, M4, acc, bP, A4, by omega, h4⟩
    | true =>
      dsimp only at h4 ⊢
      rw [if_pos rfl] at h4 ⊢
      refine ⟨β.add D, fI, M4, _, A4.zr, h4, fun yd M5 yv H5 x5 r5 h5 => ?_⟩
      have A5 := A4.step x5 (A4.zr.step x5)
      refine hC yv jY H5 acc A5.at' (by omega) ⟨ds.length - (i + 1), by omega, rfl, aT, fI, M5, acc ++ [yv], bP ++ [yd], A5.snoc r5, by simp; omega, ?_⟩
      have e2 : (fun ys M2 => Q' (bP ++ [yd] ++ ys) M2) = fun ys M2 => Q' (bP ++ yd :: ys) M2 := by
        funext ys M2
        rw [List.append_assoc]
        rfl
      rw [e2]
      exact h5
  · have e : i = ds.length := by omega
    subst e
    rw [List.drop_length] at h
    refine .inl ⟨q.2 (Nat.le_refl _), bZ, M, acc, bP, A, by omega, ?_⟩
    have h' : Q' (bP ++ []) M := h
    rwa [List.append_nil] at h'
theorem oJ {D : Addr} {M1 : Mh} {H1 : Hp} {ds : List Dv} {Q' : List Dv → Mh → Prop} {bZ : aA} {τ : St} (zr : Zr Γ β M1 bZ τ H1) (hD : H1 D = none) (h : fH g tt te ds bZ M1 Q') : lC Γ β D M1 H1 g tt te ds Q' 0 ds.length τ (upd H1 D (.lst [])) :=
  ⟨rfl, Nat.zero_le _, bZ, M1, [], [], .start zr hD, Nat.le_refl _, h⟩
theorem GO {σ : St} {H : Hp} {Q : VK} (h : lE Γ (zComp tn idx zi g tt te) σ H Q) : oh tn idx (lI Γ zi) (lG Γ g) (lT Γ tt) (lE Γ te) σ H Q := by
  obtain ⟨β, ρ, M, Q', zr, h, q⟩ := h
  refine ⟨β, ρ, M, _, zr, h, fun ds M1 H1 J x1 it ⟨hlen, h1⟩ D hD => ?_⟩
  have ir := zr.step x1
  refine ⟨lC Γ β D M1 H1 g tt te ds fun ys M2 => Q' (.lst ys) M2, ⟨_, oJ (ir.block tn idx) hD h1⟩, fun i m τ H' w => ?_⟩
  rcases qJ it hlen w (C := fun y aB H4 => ∃ ys m', H4 D = some (.lst ys) ∧ ys.length < sizeLine ∧ m' < m ∧ lC Γ β D M1 H1 g tt te ds (fun ys M2 => Q' (.lst ys) M2) (i + 1) m' aB (upd H4 D (.lst (ys ++ [y])))) (fun y aB H4 acc e hl ⟨m', hm, w'⟩ => ⟨acc, m', e, hl, hm, w'⟩) with ⟨hs, bZ, M', acc, bP, A, _, hq⟩ | z
  · exact .inl ⟨hs, q _ _ _ _ (x1.trans A.ex) (oE (A.fz ir.mz) A.at' A.items) hq⟩
  · exact .inr z
theorem pH {σ : St} {H : Hp} {Q : VK} (h : lE Γ (zCompP tn idx zi g tt te) σ H Q) : oh tn idx (lI Γ zi) (lG Γ g) (lT Γ tt) (lE Γ te) σ H Q := by
  obtain ⟨β, ρ, M, Q', zr, h, q⟩ := h
  refine ⟨β, ρ, M, _, zr, h, fun ds M1 H1 J x1 it ⟨hlen, h1⟩ D hD => ?_⟩
  have ir := zr.step x1
  refine ⟨lC Γ β D M1 H1 g tt te ds fun ys M2 => ∀ a, M2 a = none → Q' (.ptr a) (ax M2 a (.lst ys)), ⟨_, oJ (ir.block tn idx) hD h1⟩, fun i m τ H' w => ?_⟩
  rcases qJ it hlen w (C := fun y aB H4 => ∃ ys m', H4 D = some (.lst ys) ∧ ys.length < sizeLine ∧ m' < m ∧ lC Γ β D M1 H1 g tt te ds (fun ys M2 => ∀ a, M2 a = none → Q' (.ptr a) (ax M2 a (.lst ys))) (i + 1) m' aB (upd H4 D (.lst (ys ++ [y])))) (fun y aB H4 acc e hl ⟨m', hm, w'⟩ => ⟨acc, m', e, hl, hm, w'⟩) with ⟨hs, bZ, M', acc, bP, A, _, hq⟩ | z
  · refine .inl ⟨hs, ?_⟩
    have Ng : D ∉ β.hid := (A.fz ir.mz).2
    have hM : M' D = none := A.m
    have mz : Mz β (ax M' D (.lst bP)) H' := by
      have rz : ∀ {v : V} {d : Dv}, Rz (β.add D) M' H' v d → Rz β (ax M' D (.lst bP)) H' v d := fun r => by
        have ne : ∀ a, Fz (β.add D) M' a → Fz β (ax M' D (.lst bP)) a := fun a f => ⟨by rw [ak (fun z => f.2 (by rw [z]; exact List.mem_cons_self))]; exact f.1, fun z => f.2 (List.mem_cons_of_mem _ z)⟩
        induction r with
        | int i => exact .int i
        | bl b => exact .bl b
        | aq => exact .aq
        | str z => exact .str z
        | tup m e hl h ih => exact .tup (ne _ m) e hl ih
        | lst m e hl h ih => exact .lst (ne _ m) e hl ih
        | dk m e hk hl h ih => exact .dk (ne _ m) e hk hl ih
        | dt m e hk hl h ih => exact .dt (ne _ m) e hk hl ih
        | bC m e m2 e2 hl h ih => exact .bC (ne _ m) e (ne _ m2) e2 hl ih
        | set m e => exact .set (ne _ m) e
        | ptr m => exact .ptr (by unfold ax; split; rfl; exact m)
        | exc m e => exact .exc (ne _ m) e
        | bh m e => exact .bh (ne _ m) e
        | b8 m e => exact .b8 (ne _ m) e
        | b9 e => exact .b9 e
        | raw v => exact .raw v
      refine ⟨fun a o e => ?_, A.zr.mz.tabs, fun a ha => A.zr.mz.hids a (List.mem_cons_of_mem _ ha), fun a o e z => ?_, A.zr.mz.lams⟩
      by_cases ha : a = D
      · subst ha
        rw [updM_same] at e
        cases e
        exact ⟨acc, A.at', A.rs.len, fun i v d a b => rz (A.rs.at' i v d a b)⟩
      · rw [ak ha] at e
        have z := A.zr.mz.obj a o e
        cases o with
        | lst ds => obtain ⟨vs, z, l, r⟩ := z; exact ⟨vs, z, l, fun i v d a b => rz (r i v d a b)⟩
        | dk ks ds => obtain ⟨vs, z, hk, l, r⟩ := z; exact ⟨vs, z, hk, l, fun i v d a b => rz (r i v d a b)⟩
        | dt ks ds => obtain ⟨vs, z, hk, l, r⟩ := z; exact ⟨vs, z, hk, l, fun i v d a b => rz (r i v d a b)⟩
        | cF => exact z
      · by_cases ha : a = D
        · subst ha; exact Ng z
        · rw [ak ha] at e
          exact A.zr.mz.apart a o e (List.mem_cons_of_mem _ z)
    have ey : Ey M1 H1 (ax M' D (.lst bP)) H' := ⟨A.ey.keep, fun a h => by unfold ax; split; rfl; exact A.ey.dom a h, fun a o m e => by rw [ak (aU e A.h1)]; exact A.ey.new a o m e⟩
    exact q _ _ _ _ (x1.trans ⟨ey, mz⟩) (.ptr (by rw [updM_same]; rfl)) (hq D hM)
  · exact .inr z
theorem LL {P : Addr} {zi : eJ} {R : It → Hp → Prop} {σ : St} {H : Hp} {ρ : aA} {M : Mh} {R' : List Dv → Mh → Prop} (hP : P ∈ Γ.tb) (zr : Zr Γ β M ρ σ H) (h : zi ρ M R') (q : ∀ ds M' H' J, Ex β M H M' H' → y4 β J ds M' H' → R' ds M' → R J H') : FO P (lI Γ zi) R σ H := by
  refine ⟨β, ρ, M, _, zr, h, fun ds M1 H1 J x1 it h1 => ?_⟩
  have Cd : P ∈ β.tb := by rw [zr.et]; exact hP
  refine ⟨x1.mz.tabs P Cd, fun ps t => ?_⟩
  have x2 := Ex.grow x1.mz Cd t
  refine q ds M1 _ J (x1.trans x2) (fun cn M' H' bx ey mz => it cn M' H' ⟨bx.P, bx.w, bx.K, bx.tb, bx.old, fun a ha => ?_⟩ (x2.toEy.trans ey) mz) h1
  rcases bx.new a ha with z | z
  · exact .inl z
  · right
    cases e : H1 a with
    | none => rfl
    | some o => obtain ⟨u, hu⟩ := Bm (p := P) (o := .cz ps) ⟨o, e⟩; rw [z] at hu; cases hu
noncomputable def jx (g : cq) (tt : cH) (te : aK) : List Dv → aA → Mh → (Bool → Mh → Prop) → Prop
  | [], _, M, Q => Q true M
  | d :: ds, τ, M, Q => g d τ M fun aB M2 => tt aB M2 fun b M3 => if b = true then te aB M3 (zBool fun c M4 => if c = false then Q false M4 else jx g tt te ds aB M4 Q) else jx g tt te ds aB M3 Q
noncomputable def zAll (tn : Nat) (idx : List Nat) (zi : eJ) (g : cq) (tt : cH) (te : aK) : aK := fun ρ M Q => zi ρ M fun ds M1 => jx g tt te ds (zBlock tn idx ρ) M1 fun b M2 => Q (.bl b) M2
theorem Je {P : Addr} (hP : P ∈ Γ.tb) {σ : St} {H : Hp} {Q : VK} (h : lE Γ (zAll tn idx zi g tt te) σ H Q) : FP P tn idx (lI Γ zi) (lG Γ g) (lT Γ tt) (lE Γ te) σ H Q := by
  obtain ⟨β, ρ, M, Q', zr, h, q⟩ := h
  refine LL hP zr h fun ds M1 H1 J x1 it h1 => ?_
  have ir := zr.step x1
  refine ⟨fun i m τ H' => m = ds.length - i ∧ i ≤ ds.length ∧ ∃ bZ M', Ex β M1 H1 M' H' ∧ Zr Γ β M' bZ τ H' ∧ jx g tt te (ds.drop i) bZ M' fun b M2 => Q' (.bl b) M2, ⟨_, rfl, Nat.zero_le _, _, M1, .refl x1.mz, ir.block tn idx, h1⟩, ?_⟩
  rintro i m τ H' ⟨rfl, hi, bZ, M', x', eL, h'⟩
  have qq := it β M' H' .refl x'.toEy x'.mz i
  by_cases aT : i < ds.length
  · refine .inr ⟨(qq.1 aT).1, fun x jV y => ?_⟩
    obtain ⟨x2, d, hd, rd⟩ := (qq.1 aT).2 x jV y
    have e : ds.drop i = d :: ds.drop (i + 1) := by
      rw [List.drop_eq_getElem_cons aT]
      rw [List.getElem?_eq_getElem aT] at hd
      cases hd
      rfl
    rw [e] at h'
    refine ⟨β, d, bZ, M', _, eL.step x2, rd, h', fun fI M3 jY H3 x3 z3 h3 => ⟨β, fI, M3, _, z3, h3, fun b M4 H4 x4 h4 => ?_⟩⟩
    have kJ := x'.trans (x2.trans (x3.trans x4))
    cases b with
    | false =>
      dsimp only at h4 ⊢
      rw [if_neg Bool.false_ne_true] at h4 ⊢
      exact ⟨ds.length - (i + 1), by omega, rfl, aT, fI, M4, kJ, z3.step x4, h4⟩
    | true =>
      dsimp only at h4 ⊢
      rw [if_pos rfl] at h4 ⊢
      refine ⟨β, fI, M4, _, z3.step x4, h4, fun yd M5 yv H5 x5 r5 h5 => ?_⟩
      obtain ⟨k, rfl, h6⟩ := i6 h5
      refine ⟨k, di r5, ?_⟩
      cases k with
      | false =>
        rw [if_pos rfl] at h6 ⊢
        exact q _ _ _ _ (x1.trans (kJ.trans x5)) (.bl _) h6
      | true =>
        rw [if_neg (by decide)] at h6 ⊢
        exact ⟨ds.length - (i + 1), by omega, rfl, aT, fI, M5, kJ.trans x5, (z3.step x4).step x5, h6⟩
  · have e : i = ds.length := by omega
    subst e
    rw [List.drop_length] at h'
    exact .inl ⟨qq.2 (Nat.le_refl _), q _ _ _ _ (x1.trans x') (.bl _) h'⟩
end
section
variable {X : Cx} {Γ : Gz} {β : Bz} {K : PySem.W.Frag}
noncomputable def zII (f : Int → Int → Dv) : dZ := fun d e M Q => match d, e with | .int i, .int j => Q (f i j) M | _, _ => False
noncomputable def zIC (C : Int → Int → Prop) (f : Int → Int → Dv) : dZ := fun d e M Q => match d, e with | .int i, .int j => C i j ∧ Q (f i j) M | _, _ => False
theorem jZ {g : Int → Int → V} {f : Int → Int → Dv} (h : ∀ β M H i j, Rz β M H (g i j) (f i j)) : oF Γ (nZ g) (zII f) := fun β x y d e M H Q Q' _ _ _ m rx ry z q => by
  unfold zII at z
  split at z
  · exact ⟨_, _, aL rx, aL ry, q _ _ _ _ (.refl m) (h ..) z⟩
  · exact z.elim
theorem j0 {C : Int → Int → Prop} {g : Int → Int → V} {f : Int → Int → Dv} (h : ∀ β M H i j, Rz β M H (g i j) (f i j)) : oF Γ (rI C g) (zIC C f) := fun β x y d e M H Q Q' _ _ _ m rx ry z q => by
  unfold zIC at z
  split at z
  · exact ⟨_, _, aL rx, aL ry, z.1, q _ _ _ _ (.refl m) (h ..) z.2⟩
  · exact z.elim
theorem fy : du Γ X (binaryOp .Add) (zII fun i j => .int (i + j)) := ⟨_, Fb, jZ fun _ _ _ _ _ => .int _⟩
theorem wF : du Γ X (binaryOp .Sub) (zII fun i j => .int (i - j)) := ⟨_, Fc, jZ fun _ _ _ _ _ => .int _⟩
theorem mw : du Γ X (binaryOp .Mult) (zIC vK fun i j => .int (i * j)) := ⟨_, Fd, j0 fun _ _ _ _ _ => .int _⟩
theorem zg : du Γ X (binaryOp .FloorDiv) (zIC E9 fun i j => .int (i / j)) := ⟨_, Dg, j0 fun _ _ _ _ _ => .int _⟩
theorem iA : du Γ X (binaryOp .Mod) (zIC (fun _ j => 0 < j) fun i j => .int (i % j)) := ⟨_, Fe, j0 fun _ _ _ _ _ => .int _⟩
theorem Jf : du Γ X (binaryOp .Pow) (zIC vJ fun i j => .int (i ^ j.toNat)) := ⟨_, Ff, j0 fun _ _ _ _ _ => .int _⟩
theorem nv : du Γ X (compareOp .Lt) (zII fun i j => .bl (decide (i < j))) := ⟨_, Iz, jZ fun _ _ _ _ _ => .bl _⟩
theorem wG : du Γ X (compareOp .LtE) (zII fun i j => .bl (decide (i ≤ j))) := ⟨_, IA, jZ fun _ _ _ _ _ => .bl _⟩
theorem LN : du Γ X (compareOp .Gt) (zII fun i j => .bl (decide (j < i))) := ⟨_, IB, jZ fun _ _ _ _ _ => .bl _⟩
noncomputable def scalZ (d e : Dv) : Option Bool := match d with
  | .int i => (match e with | .int j => some (decide (i = j)) | .aq => some false | .str _ => some false | _ => none)
  | .bl i => (match e with | .bl j => some (decide (i = j)) | .aq => some false | .str _ => some false | _ => none)
  | .str i => (match e with | .str j => some (decide (i = j)) | .aq => some false | .int _ => some false | .bl _ => some false | _ => none)
  | .aq => (match e with | .aq => some true | .int _ => some false | .bl _ => some false | .str _ => some false | _ => none)
  | _ => none
noncomputable def zEq : dZ := fun d e M Q => match scalZ d e with | some b => Q (.bl b) M | none => False
noncomputable def zNe : dZ := fun d e M Q => match scalZ d e with | some b => Q (.bl (!b)) M | none => False
theorem sV {M : Mh} {H : Hp} {x y : V} {d e : Dv} {b : Bool} (rx : Rz β M H x d) (ry : Rz β M H y e) (h : scalZ d e = some b) : Av x y = true ∧ decide (x = y) = b := by
  unfold scalZ at h
  split at h
  · rw [aL rx]
    split at h <;> cases h
    · rw [aL ry]; exact ⟨rfl, by simp⟩
    · rw [eG ry]; exact ⟨rfl, by simp⟩
    · rw [cQ ry]; exact ⟨rfl, by simp⟩
  · rw [di rx]
    split at h <;> cases h
    · rw [di ry]; exact ⟨rfl, by simp⟩
    · rw [eG ry]; exact ⟨rfl, by simp⟩
    · rw [cQ ry]; exact ⟨rfl, by simp⟩
  · rw [cQ rx]
    split at h <;> cases h
    · rw [cQ ry]; exact ⟨rfl, by simp⟩
    · rw [eG ry]; exact ⟨rfl, by simp⟩
    · rw [aL ry]; exact ⟨rfl, by simp⟩
    · rw [di ry]; exact ⟨rfl, by simp⟩
  · rw [eG rx]
    split at h <;> cases h
    · rw [eG ry]; exact ⟨rfl, by simp⟩
    · rw [aL ry]; exact ⟨rfl, by simp⟩
    · rw [di ry]; exact ⟨rfl, by simp⟩
    · rw [cQ ry]; exact ⟨rfl, by simp⟩
  · cases h
theorem ia : du Γ X (compareOp .Eq) zEq := ⟨_, Iw, fun β x y d e M H Q Q' _ _ _ m rx ry z q => by
  unfold zEq at z
  split at z
  · rename_i b hb
    obtain ⟨h1, h2⟩ := sV rx ry hb
    exact ⟨h1, by rw [h2]; exact q _ _ _ _ (.refl m) (.bl _) z⟩
  · exact z.elim⟩
theorem LO : du Γ X (compareOp .NotEq) zNe := ⟨_, Iy, fun β x y d e M H Q Q' _ _ _ m rx ry z q => by
  unfold zNe at z
  split at z
  · rename_i b hb
    obtain ⟨h1, h2⟩ := sV rx ry hb
    exact ⟨h1, by rw [h2]; exact q _ _ _ _ (.refl m) (.bl _) z⟩
  · exact z.elim⟩
noncomputable def isNonD : Dv → Option Bool
  | .aq => some true
  | .raw _ => none
  | _ => some false
theorem qK {M : Mh} {H : Hp} {x : V} {d : Dv} {b : Bool} (r : Rz β M H x d) (h : isNonD d = some b) : decide (x = .aq) = b := by
  cases r <;> simp [isNonD] at h ⊢ <;> exact h
noncomputable def zIsN (neg : Bool) : dZ := fun d e M Q => match e, isNonD d with | .aq, some b => Q (.bl (if neg then !b else b)) M | _, _ => False
theorem Jg : du Γ X (compareOp .Is) (zIsN false) := ⟨_, Fj, fun β x y d e M H Q Q' _ _ _ m rx ry z q => by
  unfold zIsN at z
  split at z
  · rename_i b hb
    exact ⟨eG ry, by rw [qK rx hb]; exact q _ _ _ _ (.refl m) (.bl _) z⟩
  · exact z.elim⟩
theorem zh : du Γ X (compareOp .IsNot) (zIsN true) := ⟨_, Dh, fun β x y d e M H Q Q' _ _ _ m rx ry z q => by
  unfold zIsN at z
  split at z
  · rename_i b hb
    exact ⟨eG ry, by rw [qK rx hb]; exact q _ _ _ _ (.refl m) (.bl _) z⟩
  · exact z.elim⟩
noncomputable def zSS (C : Str → Str → Prop) (f : Str → Str → Dv) : dZ := fun d e M Q => match d, e with | .str i, .str j => C i j ∧ Q (f i j) M | _, _ => False
theorem qM : du Γ X (binaryOp .Add) (zSS (fun i j => i.length + j.length ≤ sizeLine) fun i j => .str (i ++ j)) := ⟨_, vO, fun β x y d e M H Q Q' _ _ _ m rx ry z q => by
  unfold zSS at z
  split at z
  · exact ⟨_, _, cQ rx, cQ ry, z.1, q _ _ _ _ (.refl m) (.str _) z.2⟩
  · exact z.elim⟩
mutual
noncomputable def bU : Dv → Option Dt
  | .int i => some (.int i)
  | .bl b => some (.bl b)
  | .aq => some .aq
  | .str z => some (.str z)
  | .tup ds => (jy ds).map .tup
  | .lst ds => (jy ds).map .lst
  | _ => none
noncomputable def jy : List Dv → Option (List Dt)
  | [] => some []
  | d :: ds => match bU d, jy ds with | some a, some as => some (a :: as) | _, _ => none
end
theorem kh : ∀ {ds : List Dv} {ts : List Dt}, jy ds = some ts → ds.length = ts.length ∧ ∀ (i : Nat) (d : Dv) (t : Dt), ds[i]? = some d → ts[i]? = some t → bU d = some t
  | [], ts, h => by simp only [jy, Option.some.injEq] at h; subst h; exact ⟨rfl, fun i d t a => by simp at a⟩
  | d :: ds, ts, h => by
    simp only [jy] at h
    split at h
    · rename_i a as h1 h2
      cases h
      obtain ⟨hl, q⟩ := kh h2
      refine ⟨by simp [hl], fun i e t x y => ?_⟩
      cases i with
      | zero => simp at x y; subst x y; exact h1
      | succ i => rw [List.getElem?_cons_succ] at x y; exact q i e t x y
    · cases h
theorem zj {M : Mh} {H : Hp} {v : V} {d : Dv} (h : Rz β M H v d) : ∀ {t : Dt}, bU d = some t → dY H v t := by
  induction h with
  | int i => intro t e; simp only [bU, Option.some.injEq] at e; subst e; exact .int i
  | bl b => intro t e; simp only [bU, Option.some.injEq] at e; subst e; exact .bl b
  | aq => intro t e; simp only [bU, Option.some.injEq] at e; subst e; exact .aq
  | str z => intro t e; simp only [bU, Option.some.injEq] at e; subst e; exact .str z
  | tup m e hl h ih =>
    intro t q
    simp only [bU, Option.map_eq_some_iff] at q
    obtain ⟨ts, q, rfl⟩ := q
    obtain ⟨l2, at2⟩ := kh q
    refine .tup e (hl.trans l2) fun i x d hx hd => ?_
    have hi := (List.getElem?_eq_some_iff.mp hd).1
    have := List.getElem?_eq_getElem (l := _) (i := i) (show i < _ from l2 ▸ hi)
    exact ih i x _ hx this (at2 i _ _ this hd)
  | lst m e hl h ih =>
    intro t q
    simp only [bU, Option.map_eq_some_iff] at q
    obtain ⟨ts, q, rfl⟩ := q
    obtain ⟨l2, at2⟩ := kh q
    refine .lst e (hl.trans l2) fun i x d hx hd => ?_
    have hi := (List.getElem?_eq_some_iff.mp hd).1
    have := List.getElem?_eq_getElem (l := _) (i := i) (show i < _ from l2 ▸ hi)
    exact ih i x _ hx this (at2 i _ _ this hd)
  | set m e => intro t q; simp [bU] at q
  | ptr m => intro t q; simp [bU] at q
  | exc m e => intro t q; simp [bU] at q
  | bh m e => intro t q; simp [bU] at q
  | b8 m e => intro t q; simp [bU] at q
  | b9 e => intro t q; simp [bU] at q
  | dk m e hk hl h ih => intro t q; simp [bU] at q
  | dt m e hk hl h ih => intro t q; simp [bU] at q
  | bC m e m2 e2 hl h ih => intro t q; simp [bU] at q
  | raw v => intro t q; simp [bU] at q
noncomputable def now (M : Mh) : Dv → Dv
  | .ptr a => match M a with | some (.lst ds) => .lst ds | _ => .ptr a
  | d => d
theorem vc {M : Mh} {H : Hp} {v : V} {d : Dv} (m : Mz β M H) (h : Rz β M H v d) {t : Dt} (e : bU (now M d) = some t) : dY H v t := by
  cases d with
  | ptr a =>
    simp only [now] at e
    obtain ⟨rfl, hs⟩ := cC h
    cases q : M a with
    | none => rw [q] at hs; cases hs
    | some o =>
      rw [q] at e
      cases o with
      | cF => simp [bU] at e
      | dk ks es => simp [bU] at e
      | dt ks es => simp [bU] at e
      | lst ds =>
        obtain ⟨vs, hv, rs⟩ := m.obj a _ q
        simp only [bU, Option.map_eq_some_iff] at e
        obtain ⟨ts, q, rfl⟩ := e
        obtain ⟨l2, at2⟩ := kh q
        refine .lst hv (rs.len.trans l2) fun i x d hx hd => ?_
        have hi := (List.getElem?_eq_some_iff.mp hd).1
        have := List.getElem?_eq_getElem (l := _) (i := i) (show i < _ from l2 ▸ hi)
        exact zj (rs.at' i x _ hx this) (at2 i _ _ this hd)
  | _ => exact zj h e
noncomputable def ny (neg : Bool) : dZ := fun d e M Q => match bU (now M d), bU (now M e) with | some a, some b => iq a ≤ 60 ∧ Q (.bl (if neg then !c0 a b else c0 a b)) M | _, _ => False
theorem vd {neg : Bool} : oF Γ (Bc neg) (ny neg) := fun β x y d e M H Q Q' _ _ _ m rx ry z q => by
  unfold ny at z
  split at z
  · rename_i a b h1 h2
    exact ⟨a, b, vc m rx h1, vc m ry h2, z.1, q _ _ _ _ (.refl m) (.bl _) z.2⟩
  · exact z.elim
theorem Jh (hu : X.A.units + 64 < cLine) : du Γ X (compareOp .Eq) (ny false) := ⟨_, Gi hu, vd⟩
theorem Ji (hu : X.A.units + 64 < cLine) : du Γ X (compareOp .NotEq) (ny true) := ⟨_, Gj hu, vd⟩
noncomputable def itemsM (M : Mh) : Dv → Option (List Dv)
  | .tup ds => some ds
  | .lst ds => some ds
  | .ptr a => match M a with | some (.lst ds) => some ds | _ => none
  | _ => none
theorem ja {M : Mh} {H : Hp} {x : V} {d : Dv} {ds : List Dv} (m : Mz β M H) (r : Rz β M H x d) (h : itemsM M d = some ds) : ∃ a vs, x = .ref a ∧ (H a = some (.lst vs) ∨ H a = some (.tup vs)) ∧ aD β M H vs ds := by
  cases d with
  | tup es => cases h; obtain ⟨a, vs, e, _, h, rs⟩ := c9 r; exact ⟨a, vs, e, .inr h, rs⟩
  | lst es => cases h; obtain ⟨a, vs, e, _, h, rs⟩ := fU r; exact ⟨a, vs, e, .inl h, rs⟩
  | ptr a =>
    obtain ⟨rfl, hs⟩ := cC r
    simp only [itemsM] at h
    split at h
    · rename_i es q
      cases h
      obtain ⟨vs, hv, rs⟩ := m.obj a _ q
      exact ⟨a, vs, rfl, .inl hv, rs⟩
    · cases h
  | _ => cases h
theorem DS {M : Mh} {H : Hp} {vs : List V} {ds : List Dv} (rs : aD β M H vs ds) {i : Int} {d : Dv} (h : cZ ds i = some d) : ∃ v, cZ vs i = some v ∧ Rz β M H v d := by
  unfold cZ at h ⊢
  rw [rs.len]
  cases e : gW ds.length i with
  | none => rw [e] at h; cases h
  | some j =>
    rw [e] at h
    obtain ⟨v, hv, r⟩ := rs.get (i := j) (d := d) h
    exact ⟨v, hv, r⟩
noncomputable def GP (Γ : Gz) (X : Cx) (z : dZ) : Prop := ∃ r, kS X r ∧ oF Γ r z
noncomputable def zIx : dZ := fun d e M Q => match e with
  | .int i => (match d with
    | .str z => z.length ≤ sizeLine ∧ (match cZ z.cps.toList i with | some c => Q (.str ⟨#[c]⟩) M | none => False)
    | _ => match itemsM M d with | some ds => (match cZ ds i with | some r => Q r M | none => False) | none => False)
  | _ => False
theorem c6 (hK : X.K = K) : GP Γ X zIx := ⟨_, uV hK, fun β x y d e M H Q Q' _ _ _ m rx ry z q => by
  unfold zIx at z
  split at z
  · rename_i i
    have hy := aL ry
    split at z
    · rename_i s
      obtain ⟨hz, z⟩ := z
      split at z
      · rename_i c hc
        exact .inr (.inr ⟨s, i, c, cQ rx, hy, hz, hc, q _ _ _ _ (.refl m) (.str _) z⟩)
      · exact z.elim
    · split at z
      · rename_i ds mU
        obtain ⟨a, vs, rfl, ha, rs⟩ := ja m rx mU
        split at z
        · rename_i r hr
          obtain ⟨v, hv, rv⟩ := DS rs hr
          have z' := q _ _ _ _ (.refl m) rv z
          rcases ha with ha | ha
          · exact .inl ⟨a, vs, i, v, rfl, hy, bB.of ha, hv, z'⟩
          · exact .inr (.inl ⟨a, vs, i, v, rfl, hy, ck.of ha, hv, z'⟩)
        · exact z.elim
      · exact z.elim
  · exact z.elim⟩
theorem bN {a b : Expr} {pa pb : aK} {z : dZ} {pos : Pos} (hr : GP Γ X z) (ha : QE Γ X a pa) (hb : QE Γ X b pb) (hs : uS b) : QE Γ X (.Subscript a b pos) (zOp z pa pb) := by
  obtain ⟨r, h1, h2⟩ := hr
  exact (IE h1 ha hb hs).imp fun σ H Q h => wC h2 h
end
section
variable {X : Cx} {Γ : Gz} {β : Bz} {K : PySem.W.Frag}
section
variable {x : Str} {p pos : Pos} {e : Expr} {es : List Expr} {za : ez} {id T : String} {z : qF}
theorem aG (hc : fx Γ X (.builtin id) z) (hg : Gl X x) (hm : X.mg x = none) (hv : bootBuiltins x = some (.builtin id)) (ha : QA Γ X (e :: es) za) (hn : x ≠ "__name__" := by decide) (eC : (x == ("__debug__" : Str)) = false := by decide)
    (he : starEach (e :: es) X.env = (false, eval e X.env) :: starEach es X.env := by rfl) (bQ : (backTo pos (starEach es X.env)).any (·.1) = false := by rfl) : QE Γ X (.Call (.Name x p) (e :: es) [] pos) (zCB z za) := by
  obtain ⟨r, h1, h2⟩ := hc
  exact (AF h1 hg hm hv ha hn eC he bQ).imp fun σ H Q h => GI h2 h
theorem dO (hc : fx Γ X (.type T) z) (hg : Gl X x) (hm : X.mg x = none) (hv : bootBuiltins x = some (.type T)) (ha : QA Γ X (e :: es) za) (hn : x ≠ "__name__" := by decide) (eC : (x == ("__debug__" : Str)) = false := by decide)
    (he : starEach (e :: es) X.env = (false, eval e X.env) :: starEach es X.env := by rfl) (bQ : (backTo pos (starEach es X.env)).any (·.1) = false := by rfl) : QE Γ X (.Call (.Name x p) (e :: es) [] pos) (zCB z za) := by
  obtain ⟨r, h1, h2⟩ := hc
  exact (ye h1 hg hm hv ha hn eC he bQ).imp fun σ H Q h => GI h2 h
end
noncomputable def z1 (f : Dv → Mh → ZK → Prop) : qF := fun ds M Q => match ds with | [d] => f d M Q | _ => False
noncomputable def zLenD (d : Dv) (M : Mh) (Q : ZK) : Prop := match d with
  | .str s => s.length ≤ sizeLine ∧ Q (.int s.length) M
  | .bh ns => Q (.int ns.length) M
  | _ => match itemsM M d with | some ds => Q (.int ds.length) M | none => False
theorem de (hK : X.K = K) (hG : K = Γ.K) : fx Γ X (.builtin "len") (z1 zLenD) := ⟨_, yy hK, fun β xs ds M H Q Q' _ _ eK m rs z q => by
  rw [← hG] at eK
  unfold z1 at z
  split at z
  · rename_i d
    obtain ⟨x, rfl, r⟩ := d6 rs
    unfold zLenD at z
    split at z
    · rename_i s
      have e := cQ r
      subst e
      exact ⟨_, _, rfl, ⟨z.1, rfl⟩, q _ _ _ _ (.refl m) (.int _) z.2⟩
    · rename_i ns
      obtain ⟨a, rfl, h⟩ := qE r
      rw [eK] at h
      exact ⟨_, ns.length, rfl, .inl ⟨_, h, by simp⟩, q _ _ _ _ (.refl m) (.int _) z⟩
    · split at z
      · rename_i ds mU
        obtain ⟨a, vs, rfl, ha, fV⟩ := ja m r mU
        have q' := q _ _ (.int ds.length) _ (.refl m) (.int _) z
        rcases ha with ha | ha
        · exact ⟨_, ds.length, rfl, .inl ⟨vs, bB.of ha, fV.len.symm⟩, q'⟩
        · exact ⟨_, ds.length, rfl, .inr ⟨vs, ck.of ha, fV.len.symm⟩, q'⟩
      · exact z.elim
  · exact z.elim⟩
noncomputable def z2I (f : Int → Int → Int) : qF := fun ds M Q => match ds with | [.int i, .int j] => Q (.int (f i j)) M | _ => False
theorem GQ (hc : X.calm = true) : fx Γ X (.builtin "max") (z2I fun i j => if j > i then j else i) := ⟨_, xW hc, fun β xs ds M H Q Q' _ _ _ m rs z q => by
  unfold z2I at z
  split at z
  · obtain ⟨x, y, rfl, r, r'⟩ := mr rs
    rw [aL r, aL r']
    exact ⟨_, _, rfl, q _ _ _ _ (.refl m) (.int _) z⟩
  · exact z.elim⟩
theorem zk (hc : X.calm = true) : fx Γ X (.builtin "min") (z2I fun i j => if j < i then j else i) := ⟨_, xX hc, fun β xs ds M H Q Q' _ _ _ m rs z q => by
  unfold z2I at z
  split at z
  · obtain ⟨x, y, rfl, r, r'⟩ := mr rs
    rw [aL r, aL r']
    exact ⟨_, _, rfl, q _ _ _ _ (.refl m) (.int _) z⟩
  · exact z.elim⟩
noncomputable def zAbs (d : Dv) (M : Mh) (Q : ZK) : Prop := match d with | .int i => Q (.int (if i < 0 then -i else i)) M | _ => False
theorem Jj : fx Γ X (.builtin "abs") (z1 zAbs) := ⟨_, AA, fun β xs ds M H Q Q' _ _ _ m rs z q => by
  unfold z1 at z
  split at z
  · obtain ⟨x, rfl, r⟩ := d6 rs
    unfold zAbs at z
    split at z
    · rw [aL r]
      exact ⟨_, rfl, q _ _ _ _ (.refl m) (.int _) z⟩
    · exact z.elim
  · exact z.elim⟩
noncomputable def zList (d : Dv) (M : Mh) (Q : ZK) : Prop := match itemsM M d with | some ds => Q (.lst ds) M | none => False
theorem GR (hK : X.K = K) : fx Γ X (.type "list") (z1 zList) := ⟨_, rk hK, fun β xs ds M H Q Q' _ _ _ m rs z q => by
  unfold z1 at z
  split at z
  · obtain ⟨x, rfl, r⟩ := d6 rs
    unfold zList at z
    split at z
    · rename_i ds mU
      obtain ⟨a, vs, rfl, ha, fV⟩ := ja m r mU
      refine ⟨a, vs, rfl, ha.imp bB.of ck.of, fun l hl => ?_⟩
      have x2 := Ex.lay m hl (.lst vs)
      exact q _ _ _ _ x2 (oE (m.fz hl) ay (fV.ex x2)) z
    · exact z.elim
  · exact z.elim⟩
noncomputable def zTuple (d : Dv) (M : Mh) (Q : ZK) : Prop := match itemsM M d with | some ds => Q (.tup ds) M | none => False
theorem j1 (hK : X.K = K) : fx Γ X (.type "tuple") (z1 zTuple) := ⟨_, pz hK, fun β xs ds M H Q Q' _ _ _ m rs z q => by
  unfold z1 at z
  split at z
  · rename_i d
    obtain ⟨x, rfl, r⟩ := d6 rs
    unfold zTuple at z
    split at z
    · rename_i ds mU
      obtain ⟨a, vs, rfl, ha, fV⟩ := ja m r mU
      refine ⟨a, vs, rfl, ?_⟩
      rcases ha with ha | ha
      · refine .inl ⟨bB.of ha, fun l hl => ?_⟩
        have x2 := Ex.lay m hl (.tup vs)
        exact q _ _ _ _ x2 (lr (m.fz hl) ay (fV.ex x2)) z
      · refine .inr ⟨ck.of ha, ?_⟩
        have f : Fz β M a := by
          cases d with
          | tup es => obtain ⟨b, us, e, f, _⟩ := c9 r; cases e; exact f
          | lst es => obtain ⟨b, us, e, f, _⟩ := fU r; cases e; exact f
          | ptr b =>
            obtain ⟨e, hs⟩ := cC r
            cases e
            cases q2 : M a with
            | none => rw [q2] at hs; cases hs
            | some o => have := m.jT ha rfl; rw [q2] at this; cases this
          | _ => cases mU
        exact q _ _ _ _ (.refl m) (lr f ha fV) z
    · exact z.elim
  · exact z.elim⟩
noncomputable def eY : List Dv → Option (List Int)
  | [] => some []
  | .int i :: ds => (eY ds).map (i :: ·)
  | _ :: _ => none
theorem sW : ∀ {ds : List Dv} {ns : List Int}, eY ds = some ns → ds = ns.map Dv.int
  | [], ns, h => by simp only [eY, Option.some.injEq] at h; subst h; rfl
  | d :: ds, ns, h => by
    cases d with
    | int i =>
      simp only [eY, Option.map_eq_some_iff] at h
      obtain ⟨ms, h, rfl⟩ := h
      rw [sW h]
      rfl
    | _ => simp [eY] at h
theorem eQ : ∀ ns : List Int, eY (ns.map Dv.int) = some ns
  | [] => rfl
  | n :: ns => by simp [eY, eQ ns]
theorem nz {M : Mh} {H : Hp} : ∀ {vs : List V} {ns : List Int}, aD β M H vs (ns.map Dv.int) → vs = ns.map V.int
  | [], [], _ => rfl
  | [], _ :: _, r => absurd r.len (by simp)
  | _ :: _, [], r => absurd r.len (by simp)
  | v :: vs, n :: ns, r => by
    rw [List.map_cons] at r
    rw [List.map_cons, aL r.head, nz r.tail]
theorem nA {M : Mh} {H : Hp} : ∀ {ns : List Int}, aD β M H (ns.map V.int) (ns.map Dv.int)
  | [] => .nil
  | n :: ns => .cons (.int _) nA
noncomputable def intsM (M : Mh) (d : Dv) : Option (List Int) := match d with | .set ns => some ns | _ => (itemsM M d).bind eY
noncomputable def zSorted (d : Dv) (M : Mh) (Q : ZK) : Prop := match intsM M d with | some ns => ns.length < 64 ∧ Q (.lst ((sortI ns).map .int)) M | none => False
theorem qN {M : Mh} {H : Hp} {x : V} {d : Dv} {ns : List Int} (m : Mz β M H) (r : Rz β M H x d) (h : (itemsM M d).bind eY = some ns) : ∃ a, x = .ref a ∧ (H a = some (.lst (ns.map V.int)) ∨ H a = some (.tup (ns.map V.int))) := by
  cases e : itemsM M d with
  | none => rw [e] at h; cases h
  | some ds =>
    rw [e] at h
    obtain ⟨a, vs, rfl, ha, rs⟩ := ja m r e
    have e2 := sW (ns := ns) h
    subst e2
    have := nz rs
    subst this
    exact ⟨a, rfl, ha⟩
theorem nB (hP : X.prog = Γ.P) (hw : X.w = Γ.w) (hK : X.K = K) (hc : X.calm = true) : fx Γ X (.builtin "sorted") (z1 zSorted) := ⟨_, rl hP hw hK hc, fun β xs ds M H Q Q' eP ew _ m rs z q => by
  unfold z1 at z
  split at z
  · rename_i d
    obtain ⟨x, rfl, r⟩ := d6 rs
    unfold zSorted at z
    split at z
    · rename_i ns fR
      have fin : ∀ l, H l = none → Q (.ref l) (upd H l (.lst ((sortI ns).map V.int))) := fun l hl => by
        have x2 := Ex.lay m hl (.lst ((sortI ns).map V.int))
        exact q _ _ _ _ x2 (oE (m.fz hl) ay nA) z.2
      unfold intsM at fR
      split at fR
      · cases fR
        obtain ⟨a, rfl, f, h⟩ := y3 r
        rw [eP, ew] at h
        exact ⟨a, _, rfl, .inl h, z.1, fin⟩
      · obtain ⟨a, rfl, ha⟩ := qN m r fR
        exact ⟨a, _, rfl, .inr (ha.imp bB.of ck.of), z.1, fin⟩
    · exact z.elim
  · exact z.elim⟩
noncomputable def zSet (d : Dv) (M : Mh) (Q : ZK) : Prop := match (itemsM M d).bind eY with | some ns => ns.length + 1 < scanBound ∧ Q (.set (cO ns)) M | none => False
theorem Cz (hP : X.prog = Γ.P) (hw : X.w = Γ.w) (hK : X.K = K) (hc : X.calm = true) : fx Γ X (.type "set") (z1 zSet) := by
  refine ⟨sL Γ.P Γ.w K, by rw [← hP, ← hw]; exact wu hK hc, fun β xs ds M H Q Q' eP ew _ m rs z q => ?_⟩
  unfold z1 at z
  split at z
  · rename_i d
    obtain ⟨x, rfl, r⟩ := d6 rs
    unfold zSet at z
    split at z
    · rename_i ns fR
      obtain ⟨a, rfl, ha⟩ := qN m r fR
      refine ⟨a, ns, rfl, ha.imp bB.of ck.of, z.1, fun l hl => ?_⟩
      have x2 := Ex.lay m hl (fE Γ.P Γ.w l (cO ns))
      exact q _ _ _ _ x2 (.set (m.fz hl) (by rw [eP, ew]; exact ay)) z.2
    · exact z.elim
  · exact z.elim
noncomputable def isD (T : String) (M : Mh) (d : Dv) : Option Bool := match d with
  | .int _ => some (T == "int") | .bl _ => some (T == "int" || T == "bool") | .aq => some false | .str _ => some (T == "str") | .tup _ => some (T == "tuple") | .lst _ => some (T == "list") | .ptr a => (match M a with | some (.lst _) => some (T == "list") | some .cF => some (T == "list") | some _ => some false | none => none) | _ => none
noncomputable def pI : List String := ["int", "bool", "str", "tuple", "list"]
noncomputable def zIsInst : qF := fun ds M Q => match ds with | [d, .raw (.ty T)] => T ∈ pI ∧ (match isD T M d with | some b => Q (.bl b) M | none => False) | _ => False
theorem GU {K : PySem.W.Frag} {M : Mh} {H : Hp} {x : V} {d : Dv} {T : String} {b : Bool} (m : Mz β M H) (hT : T ∈ pI) (r : Rz β M H x d) (h : isD T M d = some b) : ∃ t, fD K H x t ∧ PySem.W.kitOne K t (.type T) = some b := by
  have mV : T = "int" ∨ T = "bool" ∨ T = "str" ∨ T = "tuple" ∨ T = "list" := by simpa [pI] using hT
  cases r with
  | int i => cases h; exact ⟨_, .int i, by rcases mV with rfl | rfl | rfl | rfl | rfl <;> rfl⟩
  | bl i => cases h; exact ⟨_, .bl i, by rcases mV with rfl | rfl | rfl | rfl | rfl <;> rfl⟩
  | aq => cases h; exact ⟨_, .aq, by rcases mV with rfl | rfl | rfl | rfl | rfl <;> rfl⟩
  | str i => cases h; exact ⟨_, .str i, by rcases mV with rfl | rfl | rfl | rfl | rfl <;> rfl⟩
  | tup f e hl q => cases h; exact ⟨_, .tup e, by rcases mV with rfl | rfl | rfl | rfl | rfl <;> rfl⟩
  | lst f e hl q => cases h; exact ⟨_, .lst e, by rcases mV with rfl | rfl | rfl | rfl | rfl <;> rfl⟩
  | ptr hs =>
    rename_i a
    cases q2 : M a with
    | none => rw [q2] at hs; cases hs
    | some o =>
      simp only [isD, q2] at h
      have q := m.obj a o q2
      cases o with
      | lst ds => obtain ⟨vs, e, _⟩ := q; cases h; exact ⟨_, .lst e, by rcases mV with rfl | rfl | rfl | rfl | rfl <;> rfl⟩
      | cF => obtain ⟨_, _, e, _⟩ := q; cases h; exact ⟨_, .lst e, by rcases mV with rfl | rfl | rfl | rfl | rfl <;> rfl⟩
      | dk ks ds => obtain ⟨vs, e, _⟩ := q; cases h; exact ⟨_, .dK e, by rcases mV with rfl | rfl | rfl | rfl | rfl <;> rfl⟩
      | dt ks ds => obtain ⟨vs, e, _⟩ := q; cases h; exact ⟨_, .dT e, by rcases mV with rfl | rfl | rfl | rfl | rfl <;> rfl⟩
  | set f e => cases h
  | exc f e => cases h
  | bh f e => cases h
  | b8 f e => cases h
  | b9 e => cases h
  | raw v => cases h
  | dk f e _ _ _ => cases h
  | dt f e _ _ _ => cases h
  | bC _ _ _ _ _ _ => cases h
theorem gH (hK : X.K = K) : fx Γ X (.builtin "isinstance") zIsInst := ⟨_, su hK, fun β xs ds M H Q Q' _ _ _ m rs z q => by
  unfold zIsInst at z
  split at z
  · obtain ⟨x, y, rfl, r, r'⟩ := mr rs
    rw [y2 r']
    obtain ⟨hT, z⟩ := z
    split at z
    · rename_i b hb
      obtain ⟨t, ht, hk⟩ := GU (K := K) m hT r hb
      exact ⟨_, _, t, b, rfl, ht, hk, q _ _ _ _ (.refl m) (.bl _) z⟩
    · exact z.elim
  · exact z.elim⟩
noncomputable abbrev ve := Dv → List Dv → Mh → ZK → Prop
noncomputable def GV (Γ : Gz) (X : Cx) (T id : String) (K : PySem.W.Frag) (z : ve) : Prop := ∃ r, Ft X id r ∧ ∀ (β : Bz) x xs d ds M H Q Q', β.P = Γ.P → β.w = Γ.w → β.K = Γ.K → Mz β M H → Rz β M H x d → aD β M H xs ds → z d ds M Q' → (∀ d' M' v H', Ex β M H M' H' → Rz β M' H' v d' → Q' d' M' → Q v H') → r x xs H Q
noncomputable def tyZ (T : String) (M : Mh) : Dv → Prop
  | .ptr a => match M a with | some (.lst _) => T = "list" | some .cF => T = "list" | some (.dk _ _) => T = "dict" | some (.dt _ _) => T = "dict" | none => False
  | .lst _ => T = "list"
  | .tup _ => T = "tuple"
  | .str _ => T = "str"
  | _ => False
theorem GW {M : Mh} {H : Hp} {x : V} {d : Dv} {T : String} (m : Mz β M H) (r : Rz β M H x d) (h : tyZ T M d) : FD K T x H := by
  cases r with
  | str => exact h
  | lst f e _ _ => exact .inl ⟨h, _, bB.of e⟩
  | tup f e _ _ => exact .inr (.inl ⟨h, .inr ⟨_, e⟩⟩)
  | ptr hs =>
    rename_i a
    cases q2 : M a with
    | none => rw [q2] at hs; cases hs
    | some o =>
      simp only [tyZ, q2] at h
      have q := m.obj a o q2
      cases o with
      | lst ds => obtain ⟨vs, e, _⟩ := q; exact .inl ⟨h, _, bB.of e⟩
      | cF => obtain ⟨_, _, e, _⟩ := q; exact .inl ⟨h, _, bB.of e⟩
      | dk ks ds => obtain ⟨vs, e, _⟩ := q; exact .inr (.inr (.inl ⟨h, .inl ⟨_, e⟩⟩))
      | dt ks ds => obtain ⟨vs, e, _⟩ := q; exact .inr (.inr (.inl ⟨h, .inr ⟨_, e⟩⟩))
  | _ => exact h.elim
noncomputable def zBM (T : String) (z : ve) (po : aK) (pa : ez) : aK := fun ρ M Q => po ρ M fun d M1 => tyZ T M1 d ∧ pa ρ M1 fun ds M2 => z d ds M2 Q
section
variable {o e : Expr} {es : List Expr} {po : aK} {pa : ez} {name : Str} {apos aY : Pos} {T id : String} {z : ve}
theorem rJ (h : X.K = K) (pat : PlainAttrs T) (slot : Slot T name id) (yf : typeOf (.builtin id) = pure (.type "method_descriptor")) (hm : GV Γ X T id K z) (ho : QE Γ X o po) (ha : QA Γ X (e :: es) pa) (n6 : attributeBase o name X.env (eval o X.env) = eval o X.env := by rfl)
    (sd : ((backTo aY (starEach (e :: es) X.env)).all (fun x => !x.1) && (backToKw aY (keywordEach [] X.env)).all (fun x => x.1.isSome)
      && decide ((e :: es).length + ([] : List Keyword).length + (if ([] : List Keyword).isEmpty then 0 else 1) < 30)) = true := by rfl)
    (hline : (apos.endLine == aY.line) = true := by rfl) (hs : starEach (e :: es) X.env = (false, eval e X.env) :: starEach es X.env := by rfl) (kU : (backTo aY (starEach es X.env)).any (·.1) = false := by rfl) :
    QE Γ X (.Call (.Attribute o name apos) (e :: es) [] aY) (zBM T z po pa) := by
  obtain ⟨r, h1, h2⟩ := hm
  exact (FZ h pat slot yf h1 ho ha n6 sd hline hs kU).imp fun σ H Q ⟨β, ρ, M, Q', zr, h, q⟩ => ⟨β, ρ, M, _, zr, h, fun d M1 v H1 x1 r1 ⟨ht, h1⟩ => ⟨GW x1.mz r1 ht, β, ρ, M1, _, zr.step x1, h1, fun ds M2 vs H2 x2 r2 h3 =>
    h2 β v vs d ds M2 H2 _ _ zr.eP zr.ew zr.eK x2.mz (r1.ex x2) r2 h3 fun d' M' v' H' x3 r3 q3 => q _ _ _ _ (x1.trans (x2.trans x3)) r3 q3⟩⟩
end
noncomputable def zAppend : ve := fun d ds M Q => match d, ds with | .ptr a, [y] => (match M a with | some (.lst xs) => xs.length < sizeLine ∧ Q .aq (ax M a (.lst (xs ++ [y]))) | _ => False) | _, _ => False
theorem sX : GV Γ X "list" "list.append" K zAppend := ⟨_, kW, fun β x xs d ds M H Q Q' _ _ _ m r rs z q => by
  unfold zAppend at z
  split at z
  · rename_i a y
    split at z
    · rename_i es he
      obtain ⟨e, hs⟩ := cC r
      obtain ⟨v, e2, rv⟩ := d6 rs
      subst e e2
      obtain ⟨vs, hv, fV⟩ := m.obj a _ he
      refine ⟨a, vs, v, rfl, rfl, hv, by rw [fV.len]; exact z.1, ?_⟩
      exact q _ _ _ _ (Ex.own m (.inl hs) (fV.snoc rv)) .aq z.2
    · exact z.elim
  · exact z.elim⟩
noncomputable def zPop : ve := fun d ds M Q => match d, ds with | .ptr a, [] => (match M a with | some (.lst xs) => (match xs[xs.length - 1]? with | some y => Q y (ax M a (.lst xs.dropLast)) | none => False) | _ => False) | _, _ => False
noncomputable def zPopAt : ve := fun d ds M Q => match d, ds with | .ptr a, [.int i] => (match M a with | some (.lst xs) => -(2 ^ 63) ≤ i ∧ i < 2 ^ 63 ∧ (match seqIndex? i xs.length with | some k => (match xs[k]? with | some y => Q y (ax M a (.lst (xs.eraseIdx k))) | none => False) | none => False) | _ => False) | _, _ => False
theorem aD.eraseIdx {M : Mh} {H : Hp} {vs : List V} {ds : List Dv} (h : aD β M H vs ds) (k : Nat) : aD β M H (vs.eraseIdx k) (ds.eraseIdx k) := by
  rw [List.eraseIdx_eq_take_drop_succ, List.eraseIdx_eq_take_drop_succ]
  exact (h.take _).append (h.drop _)
theorem vf : GV Γ X "list" "list.pop" K zPopAt := ⟨_, AI, fun β x xs d ds M H Q Q' _ _ _ m r rs z q => by
  unfold zPopAt at z
  split at z
  · rename_i a i
    split at z
    · rename_i es he
      obtain ⟨b1, b2, z⟩ := z
      split at z
      · rename_i k hk
        split at z
        · rename_i y hy
          obtain ⟨e, hs⟩ := cC r
          obtain ⟨v0, e2, Nh⟩ := d6 rs
          subst e e2
          rw [aL Nh]
          obtain ⟨vs, hv, fV⟩ := m.obj a _ he
          obtain ⟨v, Ni, rv⟩ := fV.get hy
          refine ⟨a, vs, i, k, v, rfl, rfl, hv, b1, b2, by rw [fV.len]; exact hk, Ni, ?_⟩
          have x2 := Ex.own m (.inl hs) (fV.eraseIdx k)
          exact q _ _ _ _ x2 (rv.ex x2) z
        · exact z.elim
      · exact z.elim
    · exact z.elim
  · exact z.elim⟩
noncomputable def zSetI : Dv → Dv → Dv → Mh → (Mh → Prop) → Prop := fun o i v M N => match o, i with | .ptr a, .int k => (match M a with | some (.lst xs) => (match gW xs.length k with | some j => N (ax M a (.lst (xs.set j v))) | none => False) | _ => False) | _, _ => False
noncomputable def zgSub (po pi : aK) : cq := fun d ρ M N => po ρ M fun o M1 => pi ρ M1 fun i M2 => zSetI o i d M2 fun M3 => N ρ M3
theorem j4 {o i : Expr} {po pi : aK} {pos : Pos} (ho : QE Γ X o po) (hi : QE Γ X i pi)
    (ha : ∀ v, assign (.Subscript o i pos) X.env v = (do
      let ov ← holding [v] (eval o X.env)
      let iv ← holding [v, ov] (eval i X.env)
      standAt pos
      holding [v, ov, iv] (setItem ov iv v)
      release [v, ov, iv] []) := by intro _; rfl) : QG Γ X (.Subscript o i pos) (zgSub po pi) :=
  (EZ ho hi set_list ha).imp fun v σ H N ⟨β, d, ρ, M, N', zr, r, h, q⟩ => ⟨β, ρ, M, _, zr, h, fun od M1 ov H1 x1 r1 h1 => ⟨β, ρ, M1, _, zr.step x1, h1, fun O5 M2 iv H2 x2 r2 h2 => by
    unfold zSetI at h2
    split at h2
    · rename_i a k
      split at h2
      · rename_i es he
        split at h2
        · rename_i j hj
          obtain ⟨e, hs⟩ := cC (r1.ex x2)
          subst e
          rw [aL r2]
          obtain ⟨vs, hv, fV⟩ := x2.mz.obj a _ he
          have x3 := Ex.own x2.mz (.inl hs) (fV.set j ((r.ex x1).ex x2))
          exact ⟨a, vs, k, j, rfl, rfl, hv, by rw [fV.len]; exact hj, q _ _ _ _ (x1.trans (x2.trans x3)) (((zr.step x1).step x2).step x3) h2⟩
        · exact h2.elim
      · exact h2.elim
    · exact h2.elim⟩⟩
end
end L2
namespace L2
open PySem PySem.Spec PySem.W PyProof.Rows
noncomputable abbrev ZX := Addr → Mh → Prop
noncomputable abbrev cJ := List Dv → Mh → ZK → ZX → Prop
noncomputable def bj (P : Program) (w : World) (K : PySem.W.Frag) (tb : cG) (S : cJ) : Sp := fun vs H Q E => ∃ (β : Bz) (ds : List Dv) (M : Mh) (Q' : ZK) (E' : ZX), β.P = P ∧ β.w = w ∧ β.K = K ∧ β.tb = tb ∧ Mz β M H ∧ aD β M H vs ds ∧ S ds M Q' E' ∧
  (∀ d M' v H', Ex β M H M' H' → Rz β M' H' v d → Q' d M' → Q v H') ∧ ∀ C M' H', Ex β M H M' H' → E' C M' → E (.ref C) none H'
theorem Rz.mx {β : Bz} {M0 M : Mh} {H : Hp} (dom : ∀ a, (M0 a).isSome = true → (M a).isSome = true) {v : V} {d : Dv} (h : Rz β M H v d) : Pin M0 d → Rz β M0 H v d := by
  have ne : ∀ a, Fz β M a → Fz β M0 a := fun a m => ⟨(by
    cases e : M0 a with
    | none => rfl
    | some o => have := dom a (by rw [e]; rfl); rw [m.1] at this; cases this), m.2⟩
  induction h with
  | int i => exact fun _ => .int i
  | bl b => exact fun _ => .bl b
  | aq => exact fun _ => .aq
  | str z => exact fun _ => .str z
  | tup m e hl h ih =>
    intro p
    cases p with
    | tup p => exact .tup (ne _ m) e hl fun i v d a b => ih i v d a b (p d (List.mem_of_getElem? b))
  | lst m e hl h ih =>
    intro p
    cases p with
    | lst p => exact .lst (ne _ m) e hl fun i v d a b => ih i v d a b (p d (List.mem_of_getElem? b))
  | set m e => exact fun _ => .set (ne _ m) e
  | ptr m => intro p; cases p with | ptr p => exact .ptr p
  | exc m e => exact fun _ => .exc (ne _ m) e
  | bh m e => exact fun _ => .bh (ne _ m) e
  | b8 m e => exact fun _ => .b8 (ne _ m) e
  | b9 e => exact fun _ => .b9 e
  | dk m e hk hl h ih =>
    intro p
    cases p with
    | dk p => exact .dk (ne _ m) e hk hl fun i v d a b => ih i v d a b (p d (List.mem_of_getElem? b))
  | dt m e hk hl h ih =>
    intro p
    cases p with
    | dt p => exact .dt (ne _ m) e hk hl fun i v d a b => ih i v d a b (p d (List.mem_of_getElem? b))
  | bC m e m2 e2 hl h ih =>
    intro p
    cases p with
    | bC p => exact .bC (ne _ m) e (ne _ m2) e2 hl fun i v d a b => ih i v d a b (p d (List.mem_of_getElem? b))
  | raw v => exact fun _ => .raw v
inductive kK (M0 M : Mh) : Dv → Dv → Prop where
  | pin {d : Dv} (h : Pin M0 d) : kK M0 M d d
  | ptr {a : Addr} {ds fT : List Dv} (h0 : M0 a = none) (h : M a = some (.lst ds)) (hl : ds.length = fT.length) (r : ∀ (i : Nat) (d d' : Dv), ds[i]? = some d → fT[i]? = some d' → kK M0 M d d') : kK M0 M (.ptr a) (.lst fT)
  | tup {ds fT : List Dv} (hl : ds.length = fT.length) (r : ∀ (i : Nat) (d d' : Dv), ds[i]? = some d → fT[i]? = some d' → kK M0 M d d') : kK M0 M (.tup ds) (.tup fT)
  | dk {a : Addr} {ks : List Key} {ds fT : List Dv} (h0 : M0 a = none) (h : M a = some (.dk ks ds)) (hl : ds.length = fT.length) (r : ∀ (i : Nat) (d d' : Dv), ds[i]? = some d → fT[i]? = some d' → kK M0 M d d') : kK M0 M (.ptr a) (.dk ks fT)
  | dt {a : Addr} {ks : List (List Key)} {ds fT : List Dv} (h0 : M0 a = none) (h : M a = some (.dt ks ds)) (hl : ds.length = fT.length) (r : ∀ (i : Nat) (d d' : Dv), ds[i]? = some d → fT[i]? = some d' → kK M0 M d d') : kK M0 M (.ptr a) (.dt ks fT)
theorem kK.rz {β : Bz} {M0 M : Mh} {H : Hp} (mz : Mz β M H) (dom : ∀ a, (M0 a).isSome = true → (M a).isSome = true) {d d' : Dv} (h : kK M0 M d d') : ∀ {v : V}, Rz β M H v d → Rz β M0 H v d' := by
  induction h with
  | pin h => exact fun r => r.mx dom h
  | ptr h0 h hl r ih =>
    intro v r
    obtain ⟨rfl, _⟩ := cC r
    obtain ⟨vs, hv, rs⟩ := mz.obj _ _ h
    refine .lst ⟨h0, mz.apart _ _ h⟩ hv (rs.len.trans hl) fun i v d a b => ?_
    obtain ⟨d0, q, rd⟩ := rs.get' a
    exact ih i d0 d q b rd
  | dk h0 h hl r ih =>
    intro v r
    obtain ⟨rfl, _⟩ := cC r
    obtain ⟨vs, hv, hk, rs⟩ := mz.obj _ _ h
    refine .dk ⟨h0, mz.apart _ _ h⟩ (.inl hv) hk (rs.len.trans hl) fun i v d a b => ?_
    obtain ⟨d0, q, rd⟩ := rs.get' a
    exact ih i d0 d q b rd
  | dt h0 h hl r ih =>
    intro v r
    obtain ⟨rfl, _⟩ := cC r
    obtain ⟨vs, hv, hk, rs⟩ := mz.obj _ _ h
    refine .dt ⟨h0, mz.apart _ _ h⟩ (.inl hv) hk (rs.len.trans hl) fun i v d a b => ?_
    obtain ⟨d0, q, rd⟩ := rs.get' a
    exact ih i d0 d q b rd
  | tup hl r ih =>
    intro v r
    obtain ⟨a, vs, rfl, f, hv, rs⟩ := c9 r
    refine .tup ⟨?_, f.2⟩ hv (rs.len.trans hl) fun i v d a b => ?_
    · cases e : M0 a with
      | none => rfl
      | some o => have := dom a (by rw [e]; rfl); rw [f.1] at this; cases this
    · obtain ⟨d0, q, rd⟩ := rs.get' a
      exact ih i d0 d q b rd
noncomputable def jb (M0 : Mh) (Q : ZK) : ZK := fun d M => Q d M ∨ ((∀ a o, M0 a = some o → M a = some o) ∧ ∃ d', kK M0 M d d' ∧ Q d' M0)
theorem my {β : Bz} {M0 M : Mh} {H0 H : Hp} {Q' : ZK} {Q : VK} (m0 : Mz β M0 H0) (q : ∀ d M' v H', Ex β M0 H0 M' H' → Rz β M' H' v d → Q' d M' → Q v H') {d : Dv} {v : V} (x : Ex β M0 H0 M H) (r : Rz β M H v d) (h : jb M0 Q' d M) : Q v H := by
  rcases h with h | ⟨same, d', rv, h⟩
  · exact q _ _ _ _ x r h
  · refine q d' M0 v H ⟨⟨x.keep, fun _ h => h, fun _ _ h _ => h⟩, fun a o e => ?_, x.mz.tabs, x.mz.hids, m0.apart, x.mz.lams⟩ (rv.rz x.mz x.dom r) h
    have z := x.mz.obj a o (same a o e)
    have z0 := m0.obj a o e
    cases o with
    | lst ds =>
      obtain ⟨vs, z, rs⟩ := z
      obtain ⟨Kn, _, zl⟩ := z0
      refine ⟨vs, z, rs.len, fun i v d a b => (rs.at' i v d a b).mx x.dom ?_⟩
      obtain ⟨v0, _, r0⟩ := zl.get b
      exact r0.pin
    | dk ks ds =>
      obtain ⟨vs, z, hk, rs⟩ := z
      obtain ⟨Kn, _, _, zl⟩ := z0
      refine ⟨vs, z, hk, rs.len, fun i v d a b => (rs.at' i v d a b).mx x.dom ?_⟩
      obtain ⟨v0, _, r0⟩ := zl.get b
      exact r0.pin
    | dt ks ds =>
      obtain ⟨vs, z, hk, rs⟩ := z
      obtain ⟨Kn, _, _, zl⟩ := z0
      refine ⟨vs, z, hk, rs.len, fun i v d a b => (rs.at' i v d a b).mx x.dom ?_⟩
      obtain ⟨v0, _, r0⟩ := zl.get b
      exact r0.pin
    | cF => exact z
noncomputable def zstart (N : List Str) (ds : List Dv) : aA := ds.map some ++ List.replicate (N.length - ds.length) none
theorem nC {Γ : Gz} {N : List Str} {vs : List V} {ds : List Dv} (m : Mz Γ.toBz Γ.M0 Γ.H0) (rs : aD Γ.toBz Γ.M0 Γ.H0 vs ds) : Zr Γ Γ.toBz Γ.M0 (zstart N ds) (start N vs) Γ.H0 := ⟨rfl, rfl, rfl, rfl, fun _ h => h, m.wf, .refl, m, by simp [zstart, start, rs.len], fun i d e => by
  unfold zstart at e
  unfold start
  rw [List.getElem?_append] at e ⊢
  rw [List.length_map] at e ⊢
  rw [rs.len]
  split at e
  · rename_i hi
    rw [if_pos hi]
    rw [List.getElem?_map, Option.map_eq_some_iff] at e
    obtain ⟨d2, e, e2⟩ := e
    cases e2
    obtain ⟨v, hv, r⟩ := rs.get e
    exact ⟨v, by rw [List.getElem?_map, hv]; rfl, r⟩
  · rw [List.getElem?_replicate] at e
    split at e <;> cases e⟩
noncomputable def zEndsOf (M0 : Mh) (Q : ZK) : gm := { nx := fun _ M => jb M0 Q .aq M, rt := jb M0 Q }
noncomputable def XR (Γ : Gz) (E' : ZX) (E : XK) : Prop := ∀ C M' H', Ex Γ.toBz Γ.M0 Γ.H0 M' H' → E' C M' → E (.ref C) none H'
section
variable {P : Program} {w : World} {K : PySem.W.Frag} {mg : Str → Option Value} {base : Heap} {tb : cG} {x : Str} {st : Stmt} {f : Addr} {fd : FuncData} {N ps : List Str} {k : Nat} {S : cJ}
theorem pJ (len : ∀ ds M Q E, S ds M Q E → ds.length = ps.length) : ∀ vs H Q E, bj P w K tb S vs H Q E → vs.length = ps.length := fun vs H Q E hS => by
  obtain ⟨β, ds, M, Q', E', _, _, _, _, m, rs, s, _⟩ := hS
  exact rs.len.trans (len _ _ _ _ s)
theorem eh (D : Df K mg x st ps f fd) (sc : aQ N ps (ai st)) (len : ∀ ds M Q E, S ds M Q E → ds.length = ps.length)
    (body : ∀ (A : Around) (outer : List Env) (s : Shared) (E : XK) (Γ : Gz) (ds : List Dv) (Q' : ZK) (E' : ZX), P = Γ.P → w = Γ.w → K = Γ.K → tb = Γ.tb → bE k (A.deeper (envOfC x (ai st) s.heap.objs.size f fd.code)) → S ds Γ.M0 Q' E' →
      ∃ p, kH Γ (fm bf P w K mg base N x (ai st) f fd.code A outer s Γ.H0 E).kO (bz st) p ∧ p (zEndsOf Γ.M0 Q') (zstart N ds) Γ.M0) : FnOk P w K mg base bf (k + 1) f fd ps (bj P w K tb S) := by
  refine D.fn.MG sc (pJ len) fun A outer s H vs Q E hr h => ?_
  obtain ⟨β, ds, M, Q', E', eP, ew, eK, et, m, rs, hS, q, _⟩ := h
  obtain ⟨p, hp, hq⟩ := body A outer s E ⟨β, M, H⟩ ds Q' E' eP.symm ew.symm eK.symm et.symm hr hS
  refine ⟨_, hp, β, zstart N ds, M, zEndsOf M Q', nC (Γ := ⟨β, M, H⟩) m rs, hq, ?_⟩
  have fin : ∀ d M' v H', Ex β M H M' H' → Rz β M' H' v d → jb M Q' d M' → Q v H' := fun d M' v H' x r h => my m q x r h
  exact ⟨fun bD M' aH H' x zr h => fin _ _ _ _ ⟨zr.ent, x.mz⟩ .aq h, fun d M' v H' x e r h => fin _ _ _ _ ⟨e, x.mz⟩ r h, fun _ _ _ _ _ _ h => h, fun _ _ _ _ _ _ h => h⟩
end
section
variable {P : Program} {w : World} {K : PySem.W.Frag} {mg : Str → Option Value} {base : Heap} {tb : cG} {x : Str} {st : Stmt} {f : Addr} {fd : FuncData} {N ps : List Str} {k : Nat} {S : cJ}
theorem wH (D : Df K mg x st ps f fd) (sc : aQ N ps (ai st)) (len : ∀ ds M Q E, S ds M Q E → ds.length = ps.length)
    (body : ∀ (A : Around) (outer : List Env) (s : Shared) (E : XK) (Γ : Gz) (ds : List Dv) (Q' : ZK) (E' : ZX), P = Γ.P → w = Γ.w → K = Γ.K → tb = Γ.tb → XR Γ E' E → bE k (A.deeper (envOfC x (ai st) s.heap.objs.size f fd.code)) → S ds Γ.M0 Q' E' →
      ∃ p, kH Γ (fm (gE P w) P w K mg base N x (ai st) f fd.code A outer s Γ.H0 E) (bz st) p ∧ p (zEndsOf Γ.M0 Q') (zstart N ds) Γ.M0) : FnOk P w K mg base (gE P w) (k + 1) f fd ps (bj P w K tb S) := by
  refine D.fn.yu sc (pJ len) fun A outer s H vs Q E hr h => ?_
  obtain ⟨β, ds, M, Q', E', eP, ew, eK, et, m, rs, hS, q, qx⟩ := h
  obtain ⟨p, hp, hq⟩ := body A outer s E ⟨β, M, H⟩ ds Q' E' eP.symm ew.symm eK.symm et.symm qx hr hS
  refine ⟨_, hp, β, zstart N ds, M, zEndsOf M Q', nC (Γ := ⟨β, M, H⟩) m rs, hq, ?_⟩
  have fin : ∀ d M' v H', Ex β M H M' H' → Rz β M' H' v d → jb M Q' d M' → Q v H' := fun d M' v H' x r h => my m q x r h
  exact ⟨fun bD M' aH H' x zr h => fin _ _ _ _ ⟨zr.ent, x.mz⟩ .aq h, fun d M' v H' x e r h => fin _ _ _ _ ⟨e, x.mz⟩ r h, fun _ _ _ _ _ _ h => h, fun _ _ _ _ _ _ h => h⟩
end
section
variable {X : Cx} {Γ : Gz} {β : Bz} {K : PySem.W.Frag}
noncomputable def zCall (S : cJ) (E' : ZX) (za : ez) : aK := fun ρ M Q => za ρ M fun ds M1 => S ds M1 Q E'
theorem XR.none : XR Γ (fun _ _ => False) (fun _ _ _ => False) := fun _ _ _ _ h => h
theorem oK {M M1 M2 : Mh} {H H1 H2 : Hp} (ent : Ey M H M1 H1) (sub : ∀ a, a ∈ Γ.hid → a ∈ β.hid) (eP : β.P = Γ.P) (ew : β.w = Γ.w) (eK : β.K = Γ.K) (et : β.tb = Γ.tb) (x : Ex β M1 H1 M2 H2) : Ex Γ.toBz M H M2 H2 := ⟨ent.trans x.toEy, x.mz.sub eP.symm ew.symm eK.symm et.symm sub⟩
section
variable {CX : f9} {k : Nat} {f : Addr} {fd : FuncData} {ps : List Str} {S : cJ} {E : XK} {E' : ZX} {x : Str} {p pos : Pos} {e : Expr} {es : List Expr} {za : ez} {P : Program} {w : World} {tb : cG}
theorem GX (hP : P = Γ.P) (hw : w = Γ.w) (hK : K = Γ.K) (ht : tb = Γ.tb) (hE : XR Γ E' E) {σ : St} {H : Hp} {Q : VK} (h : lE Γ (zCall S E' za) σ H Q) : Cb (bj P w K tb S) [] E (lA Γ za) σ H Q := by
  subst hP hw hK ht
  obtain ⟨β, ρ, M, Q', zr, h, q⟩ := h
  refine ⟨β, ρ, M, _, zr, h, fun ds M1 vs H1 x1 r1 h1 => ?_⟩
  show bj Γ.P Γ.w Γ.K Γ.tb S (vs ++ []) H1 Q E
  rw [List.append_nil]
  exact ⟨β, ds, M1, Q', E', zr.eP, zr.ew, zr.eK, zr.et, x1.mz, r1, h1, fun d M2 v H2 x2 r2 h2 => q _ _ _ _ (x1.trans x2) r2 h2, fun C M2 H2 x2 h2 => hE C M2 H2 (oK zr.ent zr.sub zr.eP zr.ew zr.eK zr.et (x1.trans x2)) h2⟩
theorem aI (F : FnOk X.prog X.w X.K X.mg X.base CX k f fd ps (bj P w K tb S)) (hr : bE k X.A) (hg : Gl X x) (hm : X.mg x = some (.ref f)) (hk : PySem.W.keepIn X.K (.ref f) = true) (hb : Binds X.K fd ps []) (hx : Passes CX X E) (hP : P = Γ.P) (hw : w = Γ.w) (hK : K = Γ.K) (ht : tb = Γ.tb) (hE : XR Γ E' E)
    (ha : QA Γ X (e :: es) za) (eC : (x == ("__debug__" : Str)) = false := by decide) (he : starEach (e :: es) X.env = (false, eval e X.env) :: starEach es X.env := by rfl) (bQ : (backTo pos (starEach es X.env)).any (·.1) = false := by rfl) :
    QE Γ X (.Call (.Name x p) (e :: es) [] pos) (zCall S E' za) := (Dl F hr hg hm hk hb .nil hx ha eC he bQ).imp fun σ H Q h => GX hP hw hK ht hE h
end
noncomputable def zRaise (C : Addr) (E' : ZX) (za : ez) : cp := fun _ ρ M => za ρ M fun ds M1 => ds.length ≤ sizeLine ∧ E' C M1
theorem sY {x : Str} {C : Addr} {jI : Expr} {rest : List Expr} {za : ez} {qB : List Value} {B newId sO : String} {E : XK} {E' : ZX} {np aY pos : Pos} (O : PySem.W.excIn X.K C qB newId = true) (FB : ExcBaseFacts B newId sO qB) (hc : X.calm = true) (hR : Raises X E) (hE : XR Γ E' E) (hg : Gl X x) (hm : X.mg x = some (.ref C)) (ha : QA Γ X (jI :: rest) za)
    (eC : (x == ("__debug__" : Str)) = false := by decide) (he : starEach (jI :: rest) X.env = (false, eval jI X.env) :: starEach rest X.env := by rfl) (bQ : (backTo aY (starEach rest X.env)).any (·.1) = false := by rfl) :
    QS Γ X (.Raise (some (.Call (.Name x np) (jI :: rest) [] aY)) none pos) (zRaise C E' za) := (Bd O FB hc hR hg hm ha eC he bQ).imp fun D σ H ⟨β, ρ, M, D', zr, h, r⟩ => ⟨β, ρ, M, _, zr, h, fun ds M1 vs H1 x1 r1 h1 =>
  ⟨by rw [r1.len]; exact h1.1, hE C M1 H1 (oK zr.ent zr.sub zr.eP zr.ew zr.eK zr.et x1) h1.2⟩⟩
section
variable {tg elt iter : Expr} {ifs : List Expr} {scope : Scope} {pos : Pos} {N' : List Str} {tn : Nat} {idx : List Nat} {zi : eJ} {g : cq} {tt : cH} {te : aK} {c P : Addr} {k : Nat}
theorem dj (hc : X.calm = true) (B : aE X.N X.env.scope scope N' tn idx) (hi : QI Γ X tg iter zi)
    (hg : Blk X N' scope fun Y => QG Γ Y tg g) (ht : Blk X N' scope fun Y => qH Γ Y ifs tt) (he : Blk X N' scope fun Y => QE Γ Y elt te)
    (hs : ∀ x, foldedSetIterable iter X.env x = pure x := by intro _; rfl) : QE Γ X (.ListComp elt [⟨tg, iter, ifs, 0⟩] scope pos) (zComp tn idx zi g tt te) := (mK hc B hi hg ht he hs).imp fun σ H Q h => GO h
theorem jc (hc : X.calm = true) (B : aE X.N X.env.scope scope N' tn idx) (hi : QI Γ X tg iter zi)
    (hg : Blk X N' scope fun Y => QG Γ Y tg g) (ht : Blk X N' scope fun Y => qH Γ Y ifs tt) (he : Blk X N' scope fun Y => QE Γ Y elt te)
    (hs : ∀ x, foldedSetIterable iter X.env x = pure x := by intro _; rfl) : QE Γ X (.ListComp elt [⟨tg, iter, ifs, 0⟩] scope pos) (zCompP tn idx zi g tt te) := (mK hc B hi hg ht he hs).imp fun σ H Q h => pH h
theorem ux {i : Nat} {y : Str} {py iV : Pos} (hN : X.N.Nodup) (dU : X.N[i]? = some y) (hy : X.env.scope.names.lookup y = some .local) (hc : X.calm = true) (B : aE X.N X.env.scope scope N' tn idx) (hi : QI Γ X tg iter zi)
    (hg : Blk X N' scope fun Y => QG Γ Y tg g) (ht : Blk X N' scope fun Y => qH Γ Y ifs tt) (he : Blk X N' scope fun Y => QE Γ Y elt te)
    (si : swapsWith (.ListComp elt [⟨tg, iter, ifs, 0⟩] scope pos) (some (.Name y py)) iV.line X.env = pure true := by rfl)
    (hs : ∀ x, foldedSetIterable iter X.env x = pure x := by intro _; rfl) : QS Γ X (.Assign [.Name y py] (.ListComp elt [⟨tg, iter, ifs, 0⟩] scope pos) iV) (zAsg (zCompP tn idx zi g tt te) (zgName i)) := (vW hN dU hy hc B hi hg ht he si hs).imp fun D σ H h => wD (fun _ _ _ h => pH h) h
theorem sZ {p so : Pos} (hP : P ∈ Γ.tb) (hr : bE (k + 1) X.A) (hc : X.calm = true) (B : aE X.N X.env.scope scope N' tn idx)
    (h0 : scope.names.lookup (".0" : Str) = some .local) (qo : scope.isCoroutine = false) (fw : X.env.code = .ref c) (hd : PySem.W.CodeHd X.base c P) (ej : ∃ bm ob, BMod X.base mainGlobals X.mg bm ob)
    (uT : Gl X "all") (hm : X.mg "all" = none) (hi : QI Γ X tg iter zi) (hg : m9 X N' scope k fun Y => QG Γ Y tg g) (ht : m9 X N' scope k fun Y => qH Γ Y ifs tt) (he : m9 X N' scope k fun Y => QE Γ Y elt te)
    (hs : ∀ x, genFold iter X.env x = pure x := by intro _; rfl) : QE Γ X (.Call (.Name "all" p) [dQ elt tg iter ifs scope so] [] pos) (zAll tn idx zi g tt te) := (FQ hr hc B h0 qo fw hd ej uT hm hi hg ht he hs).imp fun σ H Q h => Je hP h
end
end
section
variable {X : Cx} {Γ : Gz} {β : Bz} {K : PySem.W.Frag}
section
variable {tg elt iter : Expr} {ifs : List Expr} {scope : Scope} {pos : Pos} {N' : List Str} {tn : Nat} {idx : List Nat} {zi : eJ} {g : cq} {tt : cH} {te : aK} {c P : Addr} {k : Nat}
noncomputable def ki (g : cq) (tt : cH) (te : aK) : List Dv → aA → Mh → (List Int → Mh → Prop) → List Int → Prop
  | [], _, M, Q, acc => Q acc M
  | d :: ds, τ, M, Q, acc => g d τ M fun aB M2 => tt aB M2 fun b M3 => if b = true then te aB M3 fun y M4 => (match y with | .int k => acc.length + 1 < scanBound ∧ ki g tt te ds aB M4 Q (cB acc k) | _ => False) else ki g tt te ds aB M3 Q acc
noncomputable def zSetC (tn : Nat) (idx : List Nat) (zi : eJ) (g : cq) (tt : cH) (te : aK) : aK := fun ρ M Q => zi ρ M fun ds M1 => ki g tt te ds (zBlock tn idx ρ) M1 (fun ns M2 => Q (.set ns) M2) []
theorem GY (hP : X.prog = Γ.P) (hw : X.w = Γ.w) {σ : St} {H : Hp} {Q : VK} (h : lE Γ (zSetC tn idx zi g tt te) σ H Q) : yJ X tn idx (lI Γ zi) (lG Γ g) (lT Γ tt) (lE Γ te) σ H Q := by
  obtain ⟨β, ρ, M, Q', zr, h, q⟩ := h
  refine ⟨β, ρ, M, _, zr, h, fun ds M1 H1 J x1 it h1 D hD => ?_⟩
  have ir := zr.step x1
  have Nj := ir.block tn idx
  have Nk : Γ.H0 D = none := ir.ent.gone hD (by
    cases e : Γ.M0 D with
    | none => rfl
    | some u => have := ir.ent.dom D (by rw [e]; rfl); rw [x1.mz.free hD] at this; cases this)
  have Nm := x1.mz.Bn hD
  have vZ : D ∈ (β.add D).hid := List.mem_cons_self
  refine ⟨fun i m τ H' => m = ds.length - i ∧ i ≤ ds.length ∧ ∃ bZ M' acc, Ey M1 H1 M' H' ∧ M' D = none ∧ Zr Γ (β.add D) M' bZ τ H' ∧ H' D = some (fE X.prog X.w D acc) ∧ ki g tt te (ds.drop i) bZ M' (fun ns M2 => Q' (.set ns) M2) acc,
    ⟨_, rfl, Nat.zero_le _, _, M1, [], Ey.refl.over hD, x1.mz.free hD, Nj.enter hD rfl, ay, h1⟩, ?_⟩
  rintro i m τ H' ⟨rfl, hi, bZ, M', acc, ey, hm, eL, at', h'⟩
  have qq := it (β.add D) M' H' (.add hD) ey eL.mz i
  by_cases aT : i < ds.length
  · refine .inr ⟨(qq.1 aT).1, fun x jV y => ?_⟩
    obtain ⟨x2, d, hd, rd⟩ := (qq.1 aT).2 x jV y
    have e : ds.drop i = d :: ds.drop (i + 1) := by
      rw [List.drop_eq_getElem_cons aT]
      rw [List.getElem?_eq_getElem aT] at hd
      cases hd
      rfl
    rw [e] at h'
    refine ⟨β.add D, d, bZ, M', _, eL.step x2, rd, h', fun fI M3 jY H3 x3 z3 h3 => ⟨β.add D, fI, M3, _, z3, h3, fun b M4 H4 x4 h4 => ?_⟩⟩
    have kJ := x2.trans (x3.trans x4)
    cases b with
    | false =>
      dsimp only at h4 ⊢
      rw [if_neg Bool.false_ne_true] at h4 ⊢
      exact ⟨ds.length - (i + 1), by omega, rfl, aT, fI, M4, acc, ey.trans kJ.toEy, kJ.new D _ hm at', z3.step x4, kJ.get hm at' rfl, h4⟩
    | true =>
      dsimp only at h4 ⊢
      rw [if_pos rfl] at h4 ⊢
      refine ⟨β.add D, fI, M4, _, z3.step x4, h4, fun yd M5 yv H5 x5 r5 h5 => ?_⟩
      have GZ := kJ.trans x5
      cases yd with
      | int k =>
        have h6 : acc.length + 1 < scanBound ∧ ki g tt te (ds.drop (i + 1)) fI M5 (fun ns M2 => Q' (.set ns) M2) (cB acc k) := h5
        have Ko := GZ.new D _ hm at'
        exact ⟨k, acc, ds.length - (i + 1), aL r5, GZ.get hm at' rfl, h6.1, by omega, rfl, aT, fI, M5, cB acc k, (ey.trans GZ.toEy).over hD, Ko, ((z3.step x4).step x5).over vZ rfl Ko Nm Nk, ay, h6.2⟩
      | _ => exact False.elim h5
  · have e : i = ds.length := by omega
    subst e
    rw [List.drop_length] at h'
    have mz : Mz β M' H' := Mz.sub (β := β.add D) (cn := β) rfl rfl rfl rfl (fun a h => List.mem_cons_of_mem _ h) eL.mz
    refine .inl ⟨qq.2 (Nat.le_refl _), q _ _ _ _ (x1.trans ⟨ey, mz⟩) (.set ⟨hm, (x1.mz.fz hD).2⟩ ?_) h'⟩
    rw [zr.eP, zr.ew, ← hP, ← hw]
    exact at'
theorem wI (hP : X.prog = Γ.P) (hw : X.w = Γ.w) (hc : X.calm = true) (B : aE X.N X.env.scope scope N' tn idx) (hi : QI Γ X tg iter zi)
    (hg : Blk X N' scope fun Y => QG Γ Y tg g) (ht : Blk X N' scope fun Y => qH Γ Y ifs tt) (he : Blk X N' scope fun Y => QE Γ Y elt te)
    (hs : ∀ x, foldedSetIterable iter X.env x = pure x := by intro _; rfl) : QE Γ X (.SetComp elt [⟨tg, iter, ifs, 0⟩] scope pos) (zSetC tn idx zi g tt te) := (wt hc B hi hg ht he hs).imp fun σ H Q h => GY hP hw h
end
noncomputable def cU (xs ys : List Dv) : List Dv := (xs.zip ys).map fun p => .tup [p.1, p.2]
noncomputable def jd (n : Nat) : List Dv := (List.range n).map fun i => .int (i : Nat)
theorem jz {J : It} {vs us : List V} {ds es : List Dv} {M : Mh} {H : Hp} (r : aD β M H vs ds) (r2 : aD β M H us es) (h : ∀ M' H', Ey M H M' H' → wz J (vs.zip us) H') : y4 β J (cU ds es) M H := fun cn M' H' bx x m i => by
  have q := h M' H' x i
  have hl : (cU ds es).length = (vs.zip us).length := by simp [cU, r.len, r2.len]
  rw [hl]
  refine ⟨fun hi => ⟨(q.1 hi).1, fun v jV y => ?_⟩, q.2⟩
  obtain ⟨t, p, ht, rfl, hp, rfl⟩ := (q.1 hi).2 v jV y
  rw [List.getElem?_zip_eq_some] at hp
  obtain ⟨d, hd, rd⟩ := r.get' hp.1
  obtain ⟨e, he, re⟩ := r2.get' hp.2
  have x2 := Ex.lay m ht (.tup [p.1, p.2])
  refine ⟨x2, .tup [d, e], ?_, lr (m.fz ht) ay (.cons (((rd.bx bx).ey x).ex x2) (.cons (((re.bx bx).ey x).ex x2) .nil))⟩
  unfold cU
  rw [List.getElem?_map, Option.map_eq_some_iff]
  exact ⟨(d, e), by rw [List.getElem?_zip_eq_some]; exact ⟨hd, he⟩, rfl⟩
theorem enum_zip (vs : List V) : ((List.range vs.length).map fun i => (V.int (i : Nat), vs.getD i .aq)) = ((List.range vs.length).map fun i => V.int (i : Nat)).zip vs := by
  refine List.ext_getElem? fun i => ?_
  by_cases hi : i < vs.length
  · rw [List.getElem?_map, List.getElem?_range hi]
    symm
    show _ = some (V.int (i : Nat), vs.getD i .aq)
    rw [List.getElem?_zip_eq_some, List.getElem?_map, List.getElem?_range hi, List.getD_eq_getElem?_getD, List.getElem?_eq_getElem hi]
    exact ⟨rfl, rfl⟩
  · rw [List.getElem?_eq_none_iff.mpr (by simp; omega), List.getElem?_eq_none_iff.mpr (by simp; omega)]
theorem pK {n : Nat} {M : Mh} {H : Hp} : aD β M H ((List.range n).map fun i => V.int (i : Nat)) (jd n) := ⟨by simp [jd], fun i v d a b => by
  unfold jd at b
  rw [List.getElem?_map] at a b
  cases e : (List.range n)[i]? with
  | none => rw [e] at a; cases a
  | some c => rw [e] at a b; cases a; cases b; exact .int _⟩
theorem Sq.Kp {H : Hp} {a : Addr} {xs : List V} (h : H a = some (.lst xs)) : Sq true K H a xs := by
  unfold Sq
  exact bB.of h
theorem Sq.ofT {H : Hp} {a : Addr} {xs : List V} (h : H a = some (.tup xs)) : Sq false K H a xs := by
  unfold Sq
  exact ck.of h
section
variable {elts : List Expr} {x1 : Nat} {tp p pos : Pos} {l l1 l2 : Expr} {pl p1 p2 : aK}
noncomputable def ziEnumK (k : Bool) (p : aK) : eJ := fun ρ M R => p ρ M fun d M1 => match k, d with | false, .tup ds => R (cU (jd ds.length) ds) M1 | true, .lst ds => R (cU (jd ds.length) ds) M1 | _, _ => False
theorem DT (k : Bool) (hK : X.K = K) (hg : Gl X "enumerate") (hm : X.mg "enumerate" = none) (hl : QE Γ X l pl) (hs : starEach [l] X.env = [(false, eval l X.env)] := by rfl) :
    QI Γ X (.Tuple elts x1 tp) (.Call (.Name "enumerate" p) [l] [] pos) (ziEnumK k pl) := (DJ k hK hg hm hl hs).imp fun σ H R ⟨β, ρ, M, R', zr, h, q⟩ => ⟨β, ρ, M, _, zr, h, fun d M1 v H1 x1 r1 h1 => by
  revert h1
  split
  · intro h1
    obtain ⟨a, vs, rfl, f, e, rs⟩ := c9 r1
    refine ⟨a, rfl, ⟨vs, Sq.ofT e⟩, q _ _ _ _ x1 ?_ h1⟩
    rw [← rs.len]
    exact jz pK rs fun M' H' x => by rw [← enum_zip]; exact qC (Sq.ofT (x.get f.1 e rfl))
  · intro h1
    obtain ⟨a, vs, rfl, f, e, rs⟩ := fU r1
    refine ⟨a, rfl, ⟨vs, Sq.Kp e⟩, q _ _ _ _ x1 ?_ h1⟩
    rw [← rs.len]
    exact jz pK rs fun M' H' x => by rw [← enum_zip]; exact qC (Sq.Kp (x.get f.1 e rfl))
  · exact fun h => h.elim⟩
end
noncomputable def zRangeP (p : aK) : aK := fun ρ M Q => p ρ M fun d M1 => match d with | .int j => -(2 ^ 24) ≤ j ∧ j ≤ 2 ^ 24 ∧ ∀ a, M1 a = none → Q (.ptr a) (ax M1 a (.lst (jd j.toNat))) | _ => False
section
variable {e : Expr} {pe : aK} {p p1 p2 pos : Pos}
theorem rn (hc : X.calm = true) (hg : Gl X "list") (hm : X.mg "list" = none) (FT : Gl X "range") (FU : X.mg "range" = none) (he : QE Γ X e pe) (hs : starEach [e] X.env = [(false, eval e X.env)] := by rfl) :
    QE Γ X (.Call (.Name "list" p) [.Call (.Name "range" p1) [e] [] p2] [] pos) (zRangeP pe) := (sr hc hg hm FT FU he hs).imp fun σ H Q ⟨β, ρ, M, Q', zr, h, q⟩ => ⟨β, ρ, M, _, zr, h, fun d M1 v H1 x1 r1 h1 => by
  revert h1
  split
  · rename_i j
    rintro ⟨b1, b2, h1⟩
    refine ⟨_, aL r1, b1, b2, fun l hl => ?_⟩
    have x2 := Ex.own x1.mz (.inr hl) (pK (n := j.toNat) (β := β) (M := M1) (H := H1))
    exact q _ _ _ _ (x1.trans x2) (.ptr (by rw [updM_same]; rfl)) (h1 l (x1.mz.free hl))
  · exact fun h => h.elim⟩
noncomputable def truD (M : Mh) : Dv → Option Bool
  | .bl b => some b
  | .aq => some false
  | .int i => some (i != 0)
  | .str z => if z.length ≤ sizeLine then some ((z.length : Int) != 0) else none
  | .tup ds => some (!ds.isEmpty)
  | .lst ds => some (!ds.isEmpty)
  | .ptr a => match M a with | some (.lst ds) => some (!ds.isEmpty) | _ => none
  | _ => none
noncomputable def zTruth (p : aK) : cH := fun ρ M Q => p ρ M fun d M1 => match truD M1 d with | some b => Q b M1 | none => False
theorem aD.isEmpty {M : Mh} {H : Hp} {vs : List V} {ds : List Dv} (h : aD β M H vs ds) : vs.isEmpty = ds.isEmpty := by
  have := h.len
  cases vs <;> cases ds <;> simp_all
theorem DU {M : Mh} {H : Hp} {v : V} {d : Dv} {b : Bool} (m : Mz β M H) (r : Rz β M H v d) (h : truD M d = some b) : Ay K v H b := by
  cases r with
  | int i => cases h; exact rfl
  | bl i => cases h; exact rfl
  | aq => cases h; exact rfl
  | str z =>
    simp only [truD] at h
    split at h
    · rename_i hz
      cases h
      exact ⟨hz, rfl⟩
    · cases h
  | tup f e hl q => cases h; exact .inr (.inl ⟨_, ck.of e, by rw [aD.isEmpty ⟨hl, q⟩]⟩)
  | lst f e hl q => cases h; exact .inl ⟨_, bB.of e, by rw [aD.isEmpty ⟨hl, q⟩]⟩
  | ptr hs =>
    simp only [truD] at h
    split at h
    · rename_i ds mU
      cases h
      obtain ⟨vs, hv, rs⟩ := m.obj _ _ mU
      exact .inl ⟨_, bB.of hv, by rw [rs.isEmpty]⟩
    · cases h
  | set f e => cases h
  | exc f e => cases h
  | bh f e => cases h
  | b8 f e => cases h
  | b9 e => cases h
  | raw v => cases h
  | dk f e _ _ _ => cases h
  | dt f e _ _ _ => cases h
  | bC _ _ _ _ _ _ => cases h
theorem Br (ha : QE Γ X e pe) (he : ∀ whole, isTrue e X.env whole = (do let v ← whole; standAt e.pos; holding [v] (truthy v)) := by intro _; rfl) : QT Γ X e (zTruth pe) := (Az ha he).imp fun σ H Q ⟨β, ρ, M, Q', zr, h, q⟩ => ⟨β, ρ, M, _, zr, h, fun d M1 v H1 x1 r1 h1 => by
  revert h1
  split
  · rename_i b hb
    intro h1
    exact ⟨b, DU x1.mz r1 hb, q _ _ _ x1 h1⟩
  · exact fun h => h.elim⟩
end
theorem qv (i : Nat) {x : Str} {pos : Pos} (hN : X.N[i]? = some x := by rfl) (hv : mH X.env.scope x := by first | exact Or.inl rfl | exact Or.inr (Or.inl rfl) | exact Or.inr (Or.inr rfl)) (hd : (x == ("__debug__" : Str)) = false := by decide)
    (dA : (x == ("__classdict__" : Str)) = false := by decide) : QE Γ X (.Name x pos) (zVar i) := GC hN hv hd dA
end
theorem Np {c : Bool} {A B : Prop} (h : c = true) (a : A) : if c = true then A else B := by rw [if_pos h]; exact a
theorem Nq {c : Bool} {A B : Prop} (h : c = false) (b : B) : if c = true then A else B := by rw [h, if_neg Bool.false_ne_true]; exact b
theorem c4 {c : Bool} {A B : Prop} (h1 : c = true → A) (h2 : c = false → B) : if c = true then A else B := by
  cases c
  · exact Nq rfl (h2 rfl)
  · exact Np rfl (h1 rfl)
theorem mB {g : cq} {te : aK} {M : Mh} (p : Dv → Bool) (I : aA → Prop) : ∀ {ds : List Dv} {τ : aA} {Q : Bool → Mh → Prop}, I τ → (∀ d ∈ ds, ∀ τ, I τ → ∀ R : aA → ZK, (∀ aB, I aB → R aB (.bl (p d)) M) → g d τ M fun aB M2 => te aB M2 (R aB)) → Q (ds.all p) M → jx g zNoIf te ds τ M Q
  | [], τ, Q, _, _, q => q
  | d :: ds, τ, Q, i, h, q => by
    refine h d List.mem_cons_self τ i (fun aB => zBool fun c M4 => if c = false then Q false M4 else jx g zNoIf te ds aB M4 Q) fun aB i2 => ?_
    show if p d = false then Q false M else jx g zNoIf te ds aB M Q
    cases e : p d with
    | false =>
      rw [if_pos rfl]
      rw [List.all_cons, e] at q
      exact q
    | true =>
      rw [if_neg (by decide)]
      rw [List.all_cons, e, Bool.true_and] at q
      exact mB p I i2 (fun d' hd => h d' (List.mem_cons_of_mem _ hd)) q
theorem vg {g : cq} {te : aK} (f : Dv → Dv) (I : aA → Mh → Prop) : ∀ {ds : List Dv} {τ : aA} {M : Mh} {Q : List Dv → Mh → Prop}, I τ M → (∀ d ∈ ds, ∀ τ M, I τ M → ∀ R : aA → ZK, (∀ aB M2, I aB M2 → R aB (f d) M2) → g d τ M fun aB M2 => te aB M2 (R aB)) → (∀ τ M, I τ M → Q (ds.map f) M) → fH g zNoIf te ds τ M Q
  | [], τ, M, Q, i, _, q => q τ M i
  | d :: ds, τ, M, Q, i, h, q => by
    refine h d List.mem_cons_self τ M i (fun aB y M4 => fH g zNoIf te ds aB M4 fun ys M5 => Q (y :: ys) M5) fun aB M2 i2 => ?_
    exact vg f I i2 (fun d' hd => h d' (List.mem_cons_of_mem _ hd)) fun jY M3 i3 => q jY M3 i3
theorem pL {g : cq} {tt : cH} {te : aK} (t : Dv → Bool) (f : Dv → Dv) (I : aA → Mh → Prop) : ∀ {ds : List Dv} {τ : aA} {M : Mh} {Q : List Dv → Mh → Prop}, I τ M →
    (∀ d ∈ ds, ∀ τ M, I τ M → ∀ (R0 : aA → Mh → Prop) (R : aA → ZK), (t d = true → ∀ aB M2, I aB M2 → R aB (f d) M2) → (t d = false → ∀ aB M2, I aB M2 → R0 aB M2) → g d τ M fun aB M2 => tt aB M2 fun b M3 => if b = true then te aB M3 (R aB) else R0 aB M3) →
    (∀ τ M, I τ M → Q ((ds.filter t).map f) M) → fH g tt te ds τ M Q
  | [], τ, M, Q, i, _, q => q τ M i
  | d :: ds, τ, M, Q, i, h, q => by
    refine h d List.mem_cons_self τ M i (fun aB M3 => fH g tt te ds aB M3 Q) (fun aB y M4 => fH g tt te ds aB M4 fun ys M5 => Q (y :: ys) M5) (fun e aB M2 i2 => ?_) fun e aB M2 i2 => ?_
    · refine pL t f I i2 (fun d' hd => h d' (List.mem_cons_of_mem _ hd)) fun jY M3 i3 => ?_
      have := q jY M3 i3
      rw [List.filter_cons, if_pos e] at this
      exact this
    · refine pL t f I i2 (fun d' hd => h d' (List.mem_cons_of_mem _ hd)) fun jY M3 i3 => ?_
      have := q jY M3 i3
      rw [List.filter_cons, if_neg (by rw [e]; decide)] at this
      exact this
theorem vh {g : cq} {te : aK} (f : Dv → Int) (I : aA → Mh → Prop) : ∀ {ds : List Dv} {τ : aA} {M : Mh} {Q : List Int → Mh → Prop} {acc : List Int}, I τ M → acc.length + ds.length + 1 < scanBound → (∀ d ∈ ds, ∀ τ M, I τ M → ∀ R : aA → ZK, (∀ aB M2, I aB M2 → R aB (.int (f d)) M2) → g d τ M fun aB M2 => te aB M2 (R aB)) → (∀ τ M, I τ M → Q ((ds.map f).foldl cB acc) M) → ki g zNoIf te ds τ M Q acc
  | [], τ, M, Q, acc, i, _, _, q => q τ M i
  | d :: ds, τ, M, Q, acc, i, hl, h, q => by
    refine h d List.mem_cons_self τ M i (fun aB y M4 => match y with | .int k => acc.length + 1 < scanBound ∧ ki g zNoIf te ds aB M4 Q (cB acc k) | _ => False) fun aB M2 i2 => ?_
    rw [List.length_cons] at hl
    refine ⟨by omega, vh f I i2 ?_ (fun d' hd => h d' (List.mem_cons_of_mem _ hd)) fun jY M3 i3 => q jY M3 i3⟩
    have := sA (ns := acc) (m := f d)
    omega
noncomputable abbrev eI (ns : List Int) : Dv := .tup (ns.map .int)
noncomputable abbrev eN (af : List (List Int)) : Dv := .tup (af.map eI)
noncomputable abbrev jA (ns : List Int) : Dv := .lst (ns.map .int)
theorem tj : ∀ ns : List Int, jy (ns.map Dv.int) = some (ns.map Dt.int)
  | [] => rfl
  | n :: ns => by simp only [List.map_cons, jy, bU, tj ns]
theorem oM : ∀ xs ys : List Int, fo (xs.map Dt.int) (ys.map Dt.int) = decide (xs = ys)
  | [], [] => by simp [fo]
  | [], _ :: _ => by simp [fo]
  | _ :: _, [] => by simp [fo]
  | x :: xs, y :: ys => by
    rw [List.map_cons, List.map_cons, fo, oM xs ys, c0]
    by_cases h1 : x = y <;> by_cases h2 : xs = ys <;> simp [h1, h2]
theorem tm {n : Nat} : ∀ {ds : List Dt}, (∀ d ∈ ds, iq d ≤ n) → fq ds ≤ n
  | [], _ => by rw [fq]; exact Nat.zero_le _
  | d :: ds, h => by
    rw [fq]
    exact Nat.max_le.mpr ⟨h d List.mem_cons_self, tm fun d' hd => h d' (List.mem_cons_of_mem _ hd)⟩
theorem DV (ns : List Int) : fq (ns.map Dt.int) ≤ 0 := tm fun d hd => by
  obtain ⟨i, _, rfl⟩ := List.mem_map.mp hd
  exact Nat.le_refl _
theorem gI {M : Mh} (ns : List Int) : ∀ d ∈ ns.map Dv.int, Pin M d := fun d hd => by
  obtain ⟨i, _, rfl⟩ := List.mem_map.mp hd
  exact .int i
theorem zm {M : Mh} (ns : List Int) : Pin M (eI ns) := .tup (gI ns)
theorem G0 {M : Mh} (af : List (List Int)) : Pin M (eN af) := .tup fun d hd => by
  obtain ⟨r, _, rfl⟩ := List.mem_map.mp hd
  exact zm r
theorem DW {α β : Type} {f : α → β} {xs : List α} {i : Int} {x : α} (h : cZ xs i = some x) : cZ (xs.map f) i = some (f x) := by
  unfold cZ at h ⊢
  rw [List.length_map]
  cases e : gW xs.length i with
  | none => rw [e] at h; cases h
  | some j => rw [e] at h; simp only [Option.bind_some] at h ⊢; rw [List.getElem?_map, h]; rfl
theorem zo {α : Type} {xs : List α} {k : Nat} (h : k < xs.length) : cZ xs ((k : Nat) : Int) = some xs[k] := dB (List.getElem?_eq_getElem h)
noncomputable def spLaw (K : PySem.W.Frag) (tb : cG) : Sp := fun vs H Q _ => ∃ (a : Addr) (ns : List Int), vs = [.ref a] ∧ bB K H a (ns.map V.int) ∧ ns.length ≤ 63 ∧ Ce tb.g H ∧ (∀ p ∈ tb.l, Lm H p) ∧ ∀ H', (∀ p ∈ tb.l, ∃ ps, H' p.1 = some (.lam ps)) → Q (.bl true) H'
noncomputable def G1 : cJ := fun ds M Q _ => ∃ ns : List Int, ds = [.bh ns] ∧ ns.length ≤ 63 ∧ (∀ a, M a = none) ∧ ∀ M', Q (.bl true) M'
theorem G2 {P : Program} {w : World} {K : PySem.W.Frag} {mg : Str → Option Value} {base : Heap} {k : Nat} {f : Addr} {fd : FuncData} {x : Str} {tb : cG} (G : FnOk P w K mg base bf k f fd [x] (bj P w K tb G1)) : FnOk P w K mg base bf k f fd [x] (spLaw K tb) :=
  G.imp fun vs H Q E ⟨a, ns, e, hS, hl, hT, hL, q⟩ => by
    subst e
    have m : Mz ⟨P, w, K, tb, []⟩ (fun _ => none) H := ⟨(fun a o e => nomatch e), hT, (fun a ha => absurd ha (by simp)), (fun a o e => nomatch e), hL⟩
    refine ⟨⟨P, w, K, tb, []⟩, [.bh ns], fun _ => none, fun d _ => d = .bl true, fun _ _ => False, rfl, rfl, rfl, rfl, m, .cons ?_ .nil, ⟨ns, rfl, hl, fun _ => rfl, fun _ => rfl⟩, fun d M' v H' x r h => ?_, fun _ _ _ _ h => h.elim⟩
    · have fz : Fz ⟨P, w, K, tb, []⟩ (fun _ => none) a := ⟨rfl, by simp⟩
      rcases hS with (h | ⟨o, h⟩) | h
      · exact .b8 fz h
      · exact .bh fz h
      · exact .b9 h
    · subst h
      rw [di r]
      exact q H' fun p hp => let ⟨ps, e, _⟩ := x.mz.lams p hp; ⟨ps, e⟩
noncomputable def Keeps (M0 M : Mh) : Prop := ∀ a o, M0 a = some o → M a = some o
theorem Keeps.refl {M0 : Mh} : Keeps M0 M0 := fun _ _ h => h
theorem Keeps.upd {M0 M : Mh} {a : Addr} {o : Mo} (ha : M0 a = none) (h : Keeps M0 M) : Keeps M0 (ax M a o) := fun b u e => by
  rw [ak (fun z => by rw [z, ha] at e; cases e)]
  exact h b u e
theorem qO {M0 M : Mh} {Q : ZK} {d : Dv} (h : Keeps M0 M) (p : Pin M0 d) (q : Q d M0) : jb M0 Q d M := .inr ⟨h, d, .pin p, q⟩
theorem zp {M0 M : Mh} {Q : ZK} {a : Addr} {ds : List Dv} (h : Keeps M0 M) (h0 : M0 a = none) (ha : M a = some (.lst ds)) (p : ∀ d ∈ ds, Pin M0 d) (q : Q (.lst ds) M0) : jb M0 Q (.ptr a) M := .inr ⟨h, .lst ds, .ptr h0 ha rfl fun i d d' e e' => by
  rw [e] at e'
  cases e'
  exact .pin (p d (List.mem_of_getElem? e)), q⟩
theorem eR {lo : Int} {n i : Nat} {d : Dv} (h : (cf lo n)[i]? = some d) : d = .int (lo + (i : Nat)) ∧ i < n := by
  unfold cf at h
  rw [List.getElem?_map] at h
  cases e : (List.range n)[i]? with
  | none => rw [e] at h; cases h
  | some k =>
    rw [e] at h
    obtain ⟨h1, h2⟩ := List.getElem?_eq_some_iff.mp e
    rw [List.getElem_range] at h2
    subst h2
    exact ⟨(Option.some.inj h).symm, by simpa using h1⟩
theorem kj {lo : Int} {n : Nat} {d : Dv} (h : d ∈ cf lo n) : ∃ i : Nat, i < n ∧ d = .int (lo + (i : Nat)) := by
  obtain ⟨i, hi⟩ := List.mem_iff_getElem?.mp h
  obtain ⟨e, l⟩ := eR hi
  exact ⟨i, l, e⟩
theorem rangeD_len (lo : Int) (n : Nat) : (cf lo n).length = n := by simp [cf]
theorem nE {tt : cH} (t : Dv → Bool) {τ : aA} : ∀ {ds : List Dv} {x : Option Dv} {M : Mh} {Q : List Dv → Mh → Prop}, (∀ d ∈ ds, ∀ R : Bool → Mh → Prop, R (t d) M → tt (some d :: τ) M R) → Q (ds.filter t) M → fH (zgName 0) tt (zVar 0) ds (x :: τ) M Q
  | [], x, M, Q, _, q => q
  | d :: ds, x, M, Q, h, q => by
    refine h d List.mem_cons_self _ ?_
    cases e : t d with
    | true =>
      rw [List.filter_cons, if_pos e] at q
      exact nE t (Q := fun ys M5 => Q (d :: ys) M5) (fun d' hd => h d' (List.mem_cons_of_mem _ hd)) q
    | false =>
      rw [List.filter_cons, if_neg (by rw [e]; decide)] at q
      exact nE t (fun d' hd => h d' (List.mem_cons_of_mem _ hd)) q
theorem qP {xs ys : List Dv} {k : Nat} {d : Dv} (h : (cU xs ys)[k]? = some d) : ∃ x y, d = .tup [x, y] ∧ xs[k]? = some x ∧ ys[k]? = some y := by
  unfold cU at h
  rw [List.getElem?_map, Option.map_eq_some_iff] at h
  obtain ⟨p, h, rfl⟩ := h
  rw [List.getElem?_zip_eq_some] at h
  exact ⟨p.1, p.2, rfl, h.1, h.2⟩
theorem DX {n k : Nat} {d : Dv} (h : (jd n)[k]? = some d) : d = .int (k : Nat) ∧ k < n := by
  unfold jd at h
  rw [List.getElem?_map] at h
  cases e : (List.range n)[k]? with
  | none => rw [e] at h; cases h
  | some j =>
    rw [e] at h
    obtain ⟨h1, h2⟩ := List.getElem?_eq_some_iff.mp e
    rw [List.getElem_range] at h2
    subst h2
    exact ⟨(Option.some.inj h).symm, by simpa using h1⟩
theorem DY {ds : List Dv} {k : Nat} {d : Dv} (h : (cU (jd ds.length) ds)[k]? = some d) : ∃ x, d = .tup [.int (k : Nat), x] ∧ ds[k]? = some x := by
  obtain ⟨x, y, rfl, h1, h2⟩ := qP h
  obtain ⟨rfl, _⟩ := DX h1
  exact ⟨y, rfl, h2⟩
theorem atI_zero {α : Type} {x : α} {xs : List α} : cZ (x :: xs) 0 = some x := dB (j := 0) rfl
theorem lD {α : Type} {f : α → Dv} {xs : List α} {k : Nat} {d : Dv} (h : (xs.map f)[k]? = some d) : ∃ x, xs[k]? = some x ∧ d = f x := by
  rw [List.getElem?_map, Option.map_eq_some_iff] at h
  obtain ⟨x, h, e⟩ := h
  exact ⟨x, h, e.symm⟩
theorem pairsD_len (xs ys : List Dv) : (cU xs ys).length = min xs.length ys.length := by simp [cU]
end L2
namespace L2
open PySem PySem.Spec PyProof.Rows
theorem zq {M : Model} {A : Around} {E : Value → Shared → Prop} {s : Shared} {scope : Scope} {globals : Addr} {cl : List (Str × Addr)} {qual : Str} {env : Env} {Q : Env → Shared → Prop}
    (h : Q (newEnv scope s.heap.objs.size globals (cellsFrom (s.heap.objs.size + 1) scope.names cl) qual none .none (some env) builtinsNs) { s with heap := pushCells (s.heap.push { cls := .type "dict", data := .dict #[] }) scope.names }) :
    wpAny M A (newFunctionEnv scope globals cl [] qual none .none (some env)) Q E s := by
  simp only [newFunctionEnv, Option.isSome_some, if_true]
  refine wpAny_bind (wpAny_alloc ?_)
  refine wpAny_bind (wpAny_layCells _ (fun name kind cells => by cases Nr : kind == NameKind.cell <;> simp [Nr]) _ _ _ _ ?_)
  rw [show ({ s with heap := s.heap.push { cls := .type "dict", data := .dict #[] } } : Shared).heap.objs.size = s.heap.objs.size + 1 from Heap.size_push ..]
  exact wpAny_pure h
theorem je : ∀ (names : List (Str × NameKind)) (h : Heap) (cl : List (Str × Addr)) (x : Str) (c : Addr), (cellsFrom h.objs.size names cl).lookup x = some c →
    ((x, NameKind.cell) ∈ names ∧ h.objs.size ≤ c ∧ (pushCells h names).IsCell c none) ∨ ((∀ k, (x, k) ∈ names → k ≠ .cell) ∧ cl.lookup x = some c)
  | [], h, cl, x, c, e => .inr ⟨fun k z => by simp at z, e⟩
  | (n, k) :: r, h, cl, x, c, e => by
    unfold cellsFrom at e
    unfold pushCells
    split at e
    · rename_i hk
      have qp : k = .cell := by simpa using hk
      subst qp
      rw [if_pos hk]
      have sz : (h.push { cls := .type "cell", data := .cell none }).objs.size = h.objs.size + 1 := Heap.size_push ..
      rw [← sz] at e
      rcases je r _ _ x c e with ⟨a, b, d⟩ | ⟨a, b⟩
      · exact .inl ⟨List.mem_cons_of_mem _ a, by omega, d⟩
      · rw [List.lookup_cons] at b
        cases hx : x == n with
        | true =>
          rw [hx] at b
          cases b
          have e2 : x = n := by simpa using hx
          subst e2
          exact .inl ⟨List.mem_cons_self, Nat.le_refl _, ⟨_, pushCells_keeps r _ _ _ (Heap.get?_push_size _ rfl), rfl⟩⟩
        | false =>
          rw [hx] at b
          refine .inr ⟨fun k2 z => ?_, b⟩
          rcases List.mem_cons.mp z with q | q
          · cases q; simp at hx
          · exact a k2 q
    · rename_i hk
      rw [if_neg hk]
      rcases je r h cl x c e with ⟨a, b, d⟩ | ⟨a, b⟩
      · exact .inl ⟨List.mem_cons_of_mem _ a, b, d⟩
      · refine .inr ⟨fun k2 z => ?_, b⟩
        rcases List.mem_cons.mp z with q | q
        · cases q; intro z; subst z; exact hk rfl
        · exact a k2 q
theorem cells_apart : ∀ (names : List (Str × NameKind)) (h : Heap) (cl : List (Str × Addr)) (x y : Str) (c : Addr), (∀ n c, cl.lookup n = some c → c < h.objs.size) → (∀ x y c, cl.lookup x = some c → cl.lookup y = some c → x = y) → (cellsFrom h.objs.size names cl).lookup x = some c → (cellsFrom h.objs.size names cl).lookup y = some c → x = y
  | [], h, cl, x, y, c, _, inj, e, e' => inj x y c e e'
  | (n, k) :: r, h, cl, x, y, c, lt, inj, e, e' => by
    unfold cellsFrom at e e'
    split at e
    · rename_i hk
      rw [if_pos hk] at e'
      have sz : (h.push { cls := .type "cell", data := .cell none }).objs.size = h.objs.size + 1 := Heap.size_push ..
      rw [← sz] at e e'
      refine cells_apart r _ _ x y c (fun m d z => ?_) (fun x y d a b => ?_) e e'
      · rw [sz]
        rw [List.lookup_cons] at z
        cases hm : m == n with
        | true => rw [hm] at z; cases z; exact Nat.lt_succ_self _
        | false => rw [hm] at z; exact Nat.lt_succ_of_lt (lt m d z)
      · rw [List.lookup_cons] at a b
        have old : ∀ z, cl.lookup z = some h.objs.size → False := fun z q => absurd (lt _ _ q) (Nat.lt_irrefl _)
        cases hx : x == n with
        | true =>
          rw [hx] at a
          cases a
          cases hy : y == n with
          | true => rw [show x = n by simpa using hx, show y = n by simpa using hy]
          | false => rw [hy] at b; exact (old y b).elim
        | false =>
          rw [hx] at a
          cases hy : y == n with
          | true => rw [hy] at b; cases b; exact (old x a).elim
          | false => rw [hy] at b; exact inj x y d a b
    · rename_i hk
      rw [if_neg hk] at e'
      exact cells_apart r h cl x y c lt inj e e'
theorem jB : ∀ (names : List (Str × NameKind)) (n : Nat) (cl : List (Str × Addr)) (x : Str), ((x, NameKind.cell) ∈ names ∨ ∃ c, cl.lookup x = some c) → ∃ c, (cellsFrom n names cl).lookup x = some c
  | [], n, cl, x, h => by
    rcases h with h | h
    · simp at h
    · exact h
  | (y, k) :: r, n, cl, x, h => by
    unfold cellsFrom
    split
    · rename_i hk
      refine jB r _ _ x ?_
      by_cases e : x = y
      · subst e
        exact .inr ⟨n, by rw [List.lookup_cons]; simp⟩
      · rcases h with h | ⟨c, h⟩
        · rcases List.mem_cons.mp h with q | q
          · cases q; exact absurd rfl e
          · exact .inl q
        · exact .inr ⟨c, by rw [List.lookup_cons, show (x == y) = false by simpa using e]; exact h⟩
    · rename_i hk
      refine jB r _ _ x ?_
      rcases h with h | h
      · rcases List.mem_cons.mp h with q | q
        · cases q; exact absurd rfl hk
        · exact .inl q
      · exact .inr h
theorem wJ {X : Cx} {pins : List (Addr × Obj)} {σ : St} {H : Hp} {s : Shared} (I : Inv X pins σ H s) {x : Str} {c : Addr} (h : X.env.cells.lookup x = some c) : c < s.heap.objs.size := by
  obtain ⟨v, o, ho, _⟩ := I.cell x c h
  exact Heap.lt_size ho
noncomputable abbrev mW (X : Cx) (N' : List Str) (scope : Scope) (cl : List (Str × Addr)) (C : Addr) (s : Shared) (H : Hp) (fp : List Addr) (own : Str → Bool) : Cx := { gB X N' scope cl C s H fp with fn := own }
noncomputable def dm (N : List Str) (sc scope : Scope) (N' : List Str) (tn : Nat) (idx : List Nat) : Prop :=
  scope.kind = .function ∧ (∀ y ∈ scope.names, (y.2 = .cell → scope.names.lookup y.1 = some .cell) ∧ (y.2 = .local → scope.names.lookup y.1 = some .local) ∧ (y.2 = .free → sc.names.lookup y.1 = some .cell ∨ sc.names.lookup y.1 = some .free)) ∧
    N'.length = tn + idx.length ∧ ∀ p ∈ idx.zip (N'.drop tn), N[p.1]? = some p.2 ∧ scope.names.lookup p.2 = some .free
instance (N : List Str) (sc scope : Scope) (N' : List Str) (tn : Nat) (idx : List Nat) : Decidable (dm N sc scope N' tn idx) := by unfold dm; infer_instance
theorem dm.at {N : List Str} {sc scope : Scope} {N' : List Str} {tn : Nat} {idx : List Nat} (B : dm N sc scope N' tn idx) {σ : St} {i : Nat} {x : Str} {v : V} (h1 : N'[i]? = some x) (h2 : (bo tn idx σ)[i]? = some (some v)) :
    scope.names.lookup x = some .free ∧ ∃ j : Nat, N[j]? = some x ∧ σ[j]? = some (some v) := by
  obtain ⟨_, _, b3, b4⟩ := B
  unfold bo at h2
  by_cases hi : i < tn
  · rw [List.getElem?_append_left (by simpa using hi), List.getElem?_replicate, if_pos hi] at h2
    cases h2
  · rw [List.getElem?_append_right (by simpa using hi), List.length_replicate, List.getElem?_map] at h2
    cases e : idx[i - tn]? with
    | none => rw [e] at h2; cases h2
    | some k =>
      rw [e] at h2
      have h3 : (σ[k]?).join = some v := Option.some.inj h2
      have e2 : (N'.drop tn)[i - tn]? = some x := by
        rw [List.getElem?_drop]
        have : tn + (i - tn) = i := by omega
        rw [this]; exact h1
      have m : (k, x) ∈ idx.zip (N'.drop tn) := by
        refine List.mem_of_getElem? (i := i - tn) ?_
        rw [List.getElem?_zip_eq_some]
        exact ⟨e, e2⟩
      obtain ⟨a, b⟩ := b4 _ m
      refine ⟨b, k, a, ?_⟩
      cases q : σ[k]? with
      | none => rw [q] at h3; cases h3
      | some w => rw [q] at h3; exact congrArg some h3
theorem dm.len {N : List Str} {sc scope : Scope} {N' : List Str} {tn : Nat} {idx : List Nat} (B : dm N sc scope N' tn idx) (σ : St) : (bo tn idx σ).length = N'.length := by
  rw [B.2.2.1]
  unfold bo
  simp
noncomputable def dn (scope : Scope) (x : Str) : Bool := scope.names.lookup x == some .cell
noncomputable abbrev km (X : Cx) (N' : List Str) (scope : Scope) (P : Cx → Prop) : Prop := ∀ (cl : List (Str × Addr)) (C : Addr) (s : Shared) (H : Hp) (fp : List Addr), P (mW X N' scope cl C s H fp (dn scope))
theorem wK {X : Cx} {pins : List (Addr × Obj)} {σ aH : St} {H H' : Hp} {s : Shared} {N' : List Str} {scope : Scope} {cs : List (Str × Addr)} {C : Addr} {ex : List Addr} {h1 : Heap} {m0 : Str → Option Value} {g' : Array GenState} {tk : Nat}
    (I : Inv X pins σ H s) (me : scope.kind = .function)
    (cP : ∀ n c, cs.lookup n = some c → (dn scope n = true ∧ C < c ∧ h1.IsCell c none ∧ H' c = none) ∨ (dn scope n = false ∧ X.env.cells.lookup n = some c))
    (LQ : ∀ x y c, cs.lookup x = some c → cs.lookup y = some c → x = y)
    (m6 : ∀ x, ((relabel scope X.env).names.lookup x = some .cell ∨ (relabel scope X.env).names.lookup x = some .free) → ∃ c, cs.lookup x = some c)
    (hC : s.heap.objs.size ≤ C) (hf : ∀ b ∈ ex, cS X pins H b) (vU : ∀ b ∈ ex, b < s.heap.objs.size)
    (ym : Un (dN X.stack) ex H H' s.heap h1) (hok : cc X.prog X.w H' h1) (oe : H' C = none) (og : ∀ b o, s.heap.get? b = some o → h1.get? b = some o) (fR : h1.Ns C m0)
    (se : ∀ (i : Nat) (x : Str) (v : V), N'[i]? = some x → aH[i]? = some (some v) → dn scope x = false ∧ ((relabel scope X.env).names.lookup x = some .cell ∨ (relabel scope X.env).names.lookup x = some .free) ∧ mH X.env.scope x ∧ (X.env.kindOf x = some .cell ∨ X.env.kindOf x = some .free) ∧ ∃ j : Nat, X.N[j]? = some x ∧ σ[j]? = some (some v))
    (hlen : aH.length = N'.length) (hg : Gn s.gens.size g') : Inv (mW X N' scope cs C s H ex (dn scope)) [] aH H' { s with heap := h1, gens := g', toks := tk } := by
  have yn : ∀ b ∈ ex, ∀ x c, X.env.cells.lookup x = some c → c ≠ b := fun b hb => (hf b hb).2.2.2.2.1
  have Nt : ∀ b ∈ ex, ∀ x c, cs.lookup x = some c → c ≠ b := fun b hb x c e z => by
    rcases cP x c e with ⟨_, q, _⟩ | ⟨_, q⟩
    · subst z; exact absurd (Nat.lt_trans (Nat.lt_of_le_of_lt hC q) (vU _ hb)) (Nat.lt_irrefl _)
    · exact yn b hb x c q z
  refine ⟨⟨I.ok.mod, me, I.ok.glob, I.ok.blt, hC, LQ, m6, fun x c hx e => ?_, fun z => I.ok.hd z, I.ok.frames, .inl rfl, fun b hb => ⟨Nat.ne_of_lt (Nat.lt_of_lt_of_le (vU b hb) hC), fun x c e => Nt b hb x c e⟩,
      I.bs, Nat.le_trans I.ok.bsz I.sz, fun b o e hb => ?_, fun b hb z => ?_, I.stack, I.jM⟩, rfl, hg, ym, ⟨m0, fR, fun i x v e1 e2 e3 => ?_⟩, fun x c e => ?_, oe, fun x c e => ?_, fun p hp => absurd (show p ∈ ([] : List (Addr × Obj)) from hp) (by simp), hok, hlen⟩
  · rcases cP x c e with ⟨_, q, _⟩ | ⟨q, _⟩
    · exact Nat.le_of_lt (Nat.lt_of_le_of_lt hC q)
    · have gC : dn scope x = true := hx
      rw [q] at gC; cases gC
  · rcases (hf b hb).2.2.2.1 with z | z
    · exact I.ok.noex b o e z
    · exact absurd (Nat.lt_of_lt_of_le (Heap.lt_size e) (Nat.le_trans I.ok.bsz z)) (Nat.lt_irrefl _)
  · rcases List.mem_cons.mp (I.eB b z) with q | q
    · exact (hf b hb).2.1 q
    · exact (hf b hb).2.2.1 q
  · obtain ⟨k0, k1, vx, k2, j, n1, n2⟩ := se i x v e1 e2
    obtain ⟨m, hn, hl⟩ := I.loc
    obtain ⟨u, r, l⟩ := hl j x v n1 n2 vx
    refine ⟨u, r, .inr ⟨k1, ?_⟩⟩
    obtain ⟨c', yo⟩ := m6 x k1
    rcases l with ⟨kl, _⟩ | ⟨_, c, ec, z⟩
    · rcases k2 with q | q <;> (rw [kl] at q; cases q)
    · rcases cP x c' yo with ⟨q, _⟩ | ⟨_, q⟩
      · rw [k0] at q; cases q
      · have : c' = c := Option.some.inj (q.symm.trans ec)
        subst this
        exact ⟨c', yo, z.keeps og⟩
  · rcases cP x c e with ⟨_, _, q, _⟩ | ⟨_, q⟩
    · exact ⟨_, q⟩
    · obtain ⟨v, z⟩ := I.cell x c q
      exact ⟨v, z.keeps og⟩
  · rcases cP x c e with ⟨_, _, _, q⟩ | ⟨_, q⟩
    · exact q
    · obtain ⟨v, o, ho, hd⟩ := I.cell x c q
      exact ym.free c o ho (I.freeC x c q) fun z => yn c z x c q rfl
section
variable {X : Cx}
theorem wL {pins : List (Addr × Obj)} {σ : St} {H2 : Hp} {s2 : Shared} {tg elt iter : Expr} {ifs : List Expr} {scope : Scope} {pos : Pos} {N' : List Str} {tn : Nat} {idx : List Nat} {g : TG} {tt : TT} {te : TE} {it : Addr} {fp : List Addr} {cA : Nat → Heap → Prop} {J : It}
    {cl : List (Str × Addr)} {E : Value → Shared → Prop} {RR : Value → Addr → Result → Shared → Prop} {Q : VK}
    (hc : X.calm = true) (B : dm X.N X.env.scope scope N' tn idx)
    (hg : km X N' scope fun Y => PG Y tg g) (ht : km X N' scope fun Y => iU Y ifs tt) (he : km X N' scope fun Y => PE Y elt te)
    (I : Inv X pins σ H2 s2) (T : Turn X.prog X.w X.K tg J fp it cA) (st : cA 0 s2.heap) (f2 : ∀ b ∈ fp, cS X pins H2 b)
    (cM : ∀ n c, cl.lookup n = some c → X.env.cells.lookup n = some c) (ee : ∀ n, (n, NameKind.free) ∈ scope.names → ∃ c, cl.lookup n = some c)
    (hq : ∀ D, H2 D = none → ∃ W : Nat → Nat → St → Hp → Prop, (∃ m, W 0 m (bo tn idx σ) (upd H2 D (.lst []))) ∧ vV J g tt te D Q W)
    (yp : ∀ D C m s' H', Inv X pins σ H' s' → cS X pins H' C → s'.heap.Ns C m → Q (.ref D) H' → RR (.ref D) C (.ok .next) s') :
    wpAny (model X.prog X.w) X.A (newList []) (fun acc dC => wpAny (model X.prog X.w) X.A (newFunctionEnv scope X.env.globals cl [] X.env.qual none .none (some X.env)) (fun kY sf =>
      codeAny (model X.prog X.w) X.A (.compStart (.ListComp elt [⟨tg, iter, ifs, 0⟩] scope pos) 0 (.ref it) acc { kY with scope := relabel scope X.env }) (RR acc kY.locals) sf) E dC) E s2 := by
  obtain ⟨b1, b2, b3, b4⟩ := id B
  refine wpAny_newObj_type (zq ?_)
  dsimp only
  generalize hG : s2.heap.push { cls := .type "list", dict := none, data := .seq ([] : List Value).toArray } = G
  have hC : G.objs.size = s2.heap.objs.size + 1 := by rw [← hG, Heap.size_push]
  generalize G3 : pushCells (G.push { cls := .type "dict", data := .dict #[] }) scope.names = c5
  have gb : c5.Ns G.objs.size fun _ => none := by rw [← G3]; exact (Heap.Ns.new G (.type "dict")).keeps (pushCells_keeps _ _)
  have oN : ∀ b o, G.get? b = some o → c5.get? b = some o := fun b o e => by rw [← G3]; exact pushCells_keeps _ _ b o (Heap.get?_push_of_some _ e)
  have sg : s2.heap.objs.size ≠ G.objs.size := by rw [hC]; exact Nat.ne_of_lt (Nat.lt_succ_self _)
  have gG : s2.heap.objs.size ≤ G.objs.size := by rw [hC]; exact Nat.le_succ _
  have below : ∀ b, b < s2.heap.objs.size → b ≠ G.objs.size := fun b hb => by rw [hC]; exact Nat.ne_of_lt (Nat.lt_succ_of_lt hb)
  have old : ∀ b o, s2.heap.get? b = some o → c5.get? b = some o := fun b o e => oN b o (hG ▸ Heap.get?_push_of_some _ e)
  have yq : c5.get? s2.heap.objs.size = some { cls := .type "list", data := .seq ([] : List Value).toArray } := oN _ _ (hG ▸ Heap.get?_push_size _ rfl)
  generalize tq : cellsFrom (G.objs.size + 1) scope.names cl = cs
  have CA : (G.push { cls := .type "dict", data := .dict #[] }).objs.size = G.objs.size + 1 := Heap.size_push ..
  have G4 : ∀ x, (x, NameKind.cell) ∈ scope.names → dn scope x = true := fun x hx => by
    unfold dn
    rw [(b2 _ hx).1 rfl]
    rfl
  have DZ : ∀ x, (∀ k, (x, k) ∈ scope.names → k ≠ NameKind.cell) → dn scope x = false := fun x hx => by
    unfold dn
    cases q : scope.names.lookup x with
    | none => rfl
    | some k => have := hx k (PySem.mem_of_lookup q); simpa using this
  have look : ∀ x c, cs.lookup x = some c → (dn scope x = true ∧ G.objs.size < c ∧ c5.IsCell c none) ∨ (dn scope x = false ∧ cl.lookup x = some c) := fun x c e => by
    rw [← tq, ← CA] at e
    rcases je scope.names _ cl x c e with ⟨a, b, d⟩ | ⟨a, b⟩
    · rw [G3] at d
      rw [CA] at b
      exact .inl ⟨G4 x a, b, d⟩
    · exact .inr ⟨DZ x a, b⟩
  have inj : ∀ x y c, cs.lookup x = some c → cs.lookup y = some c → x = y := fun x y c e e' => by
    rw [← tq, ← CA] at e e'
    refine cells_apart scope.names _ cl x y c (fun n d z => ?_) (fun x y d a b => I.ok.inj x y d (cM x d a) (cM y d b)) e e'
    rw [CA, hC]
    exact Nat.lt_succ_of_lt (Nat.lt_succ_of_lt (wJ I (cM n d z)))
  have qm : H2 s2.heap.objs.size = none := I.hok.fresh (Nat.le_refl _)
  have oe : upd H2 s2.heap.objs.size (.lst []) G.objs.size = none := by rw [ae (Ne.symm sg)]; exact I.hok.fresh gG
  have sh : cc X.prog X.w (upd H2 s2.heap.objs.size (.lst [])) c5 := I.hok.laid old (Nat.le_refl _) ⟨Nat.zero_le _, [], 0, .nil, yq⟩
  have ik : ∀ b ∈ fp, b < s2.heap.objs.size := fun b hb => let ⟨o, e, _⟩ := T.obj _ _ st b hb; Heap.lt_size e
  obtain ⟨W, ⟨m0, w0⟩, turn⟩ := hq s2.heap.objs.size qm
  have I1 : Inv (mW X N' scope cs G.objs.size s2 H2 fp (dn scope)) [] (bo tn idx σ) (upd H2 s2.heap.objs.size (.lst [])) { s2 with heap := c5, toks := s2.toks } := by
    refine wK (g' := s2.gens) (m0 := fun _ => none) I b1 (fun n c e => ?_) inj (fun x hx => ?_) gG f2 ik (Un.laid old (Nat.le_refl _) qm) sh oe old gb (fun i x v e1 e2 => ?_) (B.len σ) I.bare.self
    · rcases look n c e with ⟨o, a, b⟩ | ⟨o, a⟩
      · refine .inl ⟨o, a, b, ?_⟩
        have : c ≠ s2.heap.objs.size := fun z => by rw [z, hC] at a; exact absurd (Nat.lt_trans a (Nat.lt_succ_self _)) (fun h => by omega)
        rw [ae this]
        exact I.hok.fresh (Nat.le_of_lt (Nat.lt_of_le_of_lt gG a))
      · exact .inr ⟨o, cM n c a⟩
    · rw [cT] at hx
      rw [← tq]
      cases q : scope.names.lookup x with
      | none => rw [q] at hx; rcases hx with z | z <;> cases z
      | some k0 =>
        have hm := PySem.mem_of_lookup q
        rw [q] at hx
        by_cases hk : k0 = .free
        · subst hk; exact jB _ _ _ _ (.inr (ee x hm))
        · have nk : (k0 == NameKind.free) = false := by simpa using hk
          simp only [Option.map_some, nk, Bool.false_and, Bool.false_eq_true, if_false] at hx
          rcases hx with z | z
          · have e0 : k0 = .cell := Option.some.inj z
            subst e0
            exact jB _ _ _ _ (.inl hm)
          · exact absurd (Option.some.inj z) hk
    · obtain ⟨fr, j, e4, e5⟩ := B.at e1 e2
      have kx := (b2 _ (PySem.mem_of_lookup fr)).2.2 rfl
      refine ⟨by unfold dn; rw [fr]; rfl, ?_, .inr kx, kx, j, e4, e5⟩
      rw [cT, fr]
      simp only [Option.map_some]
      split
      · exact .inl rfl
      · exact .inr rfl
  have stat : ∀ {H' : Hp}, (∀ b ∈ fp, H' b = none) → ∀ b ∈ fp, cS (mW X N' scope cs G.objs.size s2 H2 fp (dn scope)) [] H' b := fun hn b hb => by
    refine ⟨hn b hb, below b (ik b hb), fun z => ?_, .inl hb, (fun x c e => by
      rcases look x c e with ⟨_, a, _⟩ | ⟨_, a⟩
      · exact fun z => absurd (Nat.lt_trans (Nat.lt_of_le_of_lt gG (z ▸ a)) (ik b hb)) (Nat.lt_irrefl _)
      · exact (f2 b hb).2.2.2.2.1 x c (cM x c a)), fun p hp => absurd (show p ∈ ([] : List (Addr × Obj)) from hp) (by simp)⟩
    rcases List.mem_cons.mp (I.eB b z) with q | q
    · exact (f2 b hb).2.1 q
    · exact (f2 b hb).2.2.1 q
  have loop : ∀ dC : Shared, dC = { s2 with heap := c5, toks := s2.toks } →
      codeAny (model X.prog X.w) X.A (.compLoop (.ListComp elt [⟨tg, iter, ifs, 0⟩] scope pos) 0 (.ref it) (.ref s2.heap.objs.size) (compEnvC scope cs G.objs.size X.env))
        (RR (.ref s2.heap.objs.size) G.objs.size) dC := by
    rintro dC rfl
    refine codeAny_loop rfl (fun n s' => ∃ i τ H', Inv (mW X N' scope cs G.objs.size s2 H2 fp (dn scope)) [] τ H' s' ∧ cA i s'.heap ∧ (∀ b ∈ fp, H' b = none) ∧ W i n τ H') (fun n s hI => ?_) m0
      ⟨0, _, _, I1, T.keep _ _ _ st fun b _ o e => old b o e, fun b hb => by rw [ae (Nat.ne_of_lt (ik b hb))]; exact (f2 b hb).1, w0⟩
    show wpAny _ X.A ((compTurn (.ListComp elt [⟨tg, iter, ifs, 0⟩] scope pos) 0 (.ref it) (.ref s2.heap.objs.size) (compEnvC scope cs G.objs.size X.env)).onRaise (fun x => do noteFrame x (compEnvC scope cs G.objs.size X.env); theTreesLotGoes x)) _ _ s
    refine wpAny_noted ?_
    rw [compTurn_list]
    obtain ⟨i, τ, H3, I3, js, kQ, w3⟩ := hI
    rcases turn i n τ H3 w3 with ⟨stop, qn⟩ | ⟨go, step⟩
    · refine wpAny_bind (wpAny_standAt (wpAny_bind (wpAny_mono (T.done (mW X N' scope cs G.objs.size s2 H2 fp (dn scope)) rfl rfl rfl hc i [] s τ H3 (fun _ _ => False) I3 (stat kQ) js stop) (fun r s4 ⟨hr, I4⟩ => ?_) fun _ _ z => z.elim)))
      subst hr
      refine wpAny_pure ?_
      have J2 : Inv X pins σ H3 s4 := I.nQ I4.os I4.base I4.hok I4.bare fun b hb => ⟨(f2 b hb).2.2.2.1, (f2 b hb).2.1, (f2 b hb).2.2.2.2.1, (f2 b hb).2.2.2.2.2⟩
      obtain ⟨mm, hm, _⟩ := I4.loc
      exact yp _ _ mm s4 H3 J2 (I.jH gG I4.free) hm qn
    · refine wpAny_bind (wpAny_standAt (wpAny_bind (wpAny_mono (T.item (mW X N' scope cs G.objs.size s2 H2 fp (dn scope)) rfl rfl rfl hc i [] s τ H3 (fun _ _ => False) I3 (stat kQ) js go) (fun r s4 ⟨u, hr, h4⟩ => ?_) fun _ _ z => z.elim)))
      subst hr
      refine wpAny_bind (wpAny_mono h4 (fun _ s5 ⟨x, H5, I5, r5, y5, f7, nX⟩ => ?_) fun _ _ z => z.elim)
      have nY := I5.pinned (stat nX) (T.obj _ _ f7)
      have again : ∀ {gX : St} {H7 : Hp} {s7 : Shared}, Inv (mW X N' scope cs G.objs.size s2 H2 fp (dn scope)) ([] ++ gV fp s5.heap) gX H7 s7 → (∃ m', m' < n ∧ W (i + 1) m' gX H7) →
          ∃ m, m < n ∧ ∃ i τ H', Inv (mW X N' scope cs G.objs.size s2 H2 fp (dn scope)) [] τ H' s7 ∧ cA i s7.heap ∧ (∀ b ∈ fp, H' b = none) ∧ W i m τ H' := fun {gX H7 s7} I7 n7 => by
        obtain ⟨m', hm, w7⟩ := n7
        refine ⟨m', hm, i + 1, gX, H7, I7.dP, T.keep _ _ _ f7 fun b hb o e => (I7.pin (b, o) (List.mem_append_right _ (List.mem_append_right _ (cu hb e)))).1, fun b hb => ?_, w7⟩
        obtain ⟨o, e, d⟩ := T.obj _ _ f7 b hb
        exact (I7.pin (b, o) (List.mem_append_right _ (List.mem_append_right _ (cu hb e)))).2.1
      refine wpAny_bind (wpAny_mono (hg cs G.objs.size s2 H2 fp _ s5 τ H5 x u _ nY r5 (step x H5 y5)) (fun _ s6 ⟨ip, H6, I6, q6⟩ => ?_) fun _ _ z => z.elim)
      refine wpAny_bind (wpAny_mono (ht cs G.objs.size s2 H2 fp _ s6 ip H6 _ I6 q6) (fun ok s7 ⟨H7, I7, q7⟩ => ?_) fun _ _ z => z.elim)
      cases ok with
      | false => exact wpAny_pure ⟨rfl, again I7 q7⟩
      | true =>
        refine wpAny_bind (wpAny_bind (wpAny_mono (he cs G.objs.size s2 H2 fp _ s7 ip H7 _ I7 q7) (fun yv s8 ⟨y, H8, I8, r8, q8⟩ => ?_) fun _ _ z => z.elim))
        obtain ⟨ys, m', hD, hsz, kZ, w8⟩ := q8
        refine wpAny_bind (wpAny_mono (kW (X := mW X N' scope cs G.objs.size s2 H2 fp (dn scope)) _ s8 ip H8 (.ref s2.heap.objs.size) [y] (.ref s2.heap.objs.size) [yv] (fun v H9 => v = .aq ∧ H9 = upd H8 s2.heap.objs.size (.lst (ys ++ [y]))) I8 rfl (.cons r8 .nil) ⟨_, ys, y, rfl, rfl, hD, hsz, rfl, rfl⟩) (fun rv s9 ⟨v9, H9, I9, _, _, e9⟩ => ?_) fun _ _ z => z.elim)
        subst e9
        exact wpAny_pure (wpAny_pure ⟨rfl, again I9 ⟨m', kZ, w8⟩⟩)
  exact codeAny_compStart_list (loop _ rfl) (T.self _ 0 _ _ _ (T.keep _ _ _ st fun b _ o e => old b o e) (loop _ rfl))
variable {tg elt iter : Expr} {ifs : List Expr} {scope : Scope} {pos : Pos} {N' : List Str} {tn : Nat} {idx : List Nat} {wi : TI} {g : TG} {tt : TT} {te : TE}
variable {Γ : Gz}
theorem uy {i : Nat} {y : Str} {py iV : Pos} (hN : X.N.Nodup) (dU : X.N[i]? = some y) (hy : X.env.scope.names.lookup y = some .local) (hc : X.calm = true) (B : dm X.N X.env.scope scope N' tn idx) (hi : PI X tg iter wi)
    (hg : km X N' scope fun Y => PG Y tg g) (ht : km X N' scope fun Y => iU Y ifs tt) (he : km X N' scope fun Y => PE Y elt te)
    (si : swapsWith (.ListComp elt [⟨tg, iter, ifs, 0⟩] scope pos) (some (.Name y py)) iV.line X.env = pure true := by rfl)
    (hs : ∀ x, foldedSetIterable iter X.env x = pure x := by intro _; rfl) : PS X (.Assign [.Name y py] (.ListComp elt [⟨tg, iter, ifs, 0⟩] scope pos) iV) (pf (oh tn idx wi g tt te) (nU i)) := by
  refine ⟨?_⟩
  intro pins s σ H D I h
  obtain ⟨cl, fv, cM, ee⟩ := eV (scope := scope) (env := X.env) fun n hn => I.ok.has n ((B.2.1 _ hn).2.2 rfl)
  rw [exec_Assign_Name_used _ _ _ _ si]
  refine wpAny_bind (wpAny_standAt (wpAny_bind ?_))
  show wpAny _ X.A (do let _ ← comprehension (.ListComp elt [⟨tg, iter, ifs, 0⟩] scope pos) scope X.env _ (newList []) false (eval iter X.env) (some (assign (.Name y py) X.env))) _ _ s
  refine wpAny_bind (wpAny_mono (wpAny_comprehension_free (use := some (assign (.Name y py) X.env)) (Q := fun _ s' => SP X pins D .next s') rfl hs fv B.1 (fun y hy => (B.2.1 y hy).2.1)
    (wpAny_mono (hi pins s σ H _ I h) (fun xv s1 h1 => wpAny_mono h1 (fun rU s2 h2 => ?_) fun _ _ z => z) fun _ _ z => z)) (fun _ s' hq => wpAny_pure (wpAny_pure hq)) fun _ _ z => z)
  obtain ⟨it, fp, cA, J, H2, e, I2, T, kP, f2, q2⟩ := h2
  subst e
  refine wL (RR := fun acc C => compPost (model X.prog X.w) X.A X.xe (some (assign (.Name y py) X.env)) (fun _ s' => SP X pins D .next s') acc C) hc B hg ht he I2 T kP f2 cM ee q2 fun E C m s' H' J2 fC hm q => ?_
  show wpAny _ X.A (assign (.Name y py) X.env (.ref E)) _ _ s'
  refine wpAny_assign_Name (store_ok2 J2 hN dU (.inl hy) (v := .ref E) rfl (fun s3 J3 ⟨a, gf, ha⟩ => ?_) (.inr hy))
  have eE : C ≠ a := by
    rcases ha with z | z
    · rw [z]; exact fC.2.1
    · exact fun w => fC.2.2.2.2.1 _ _ z w.symm
  exact ⟨m, hm.sameBut gf eE, fun h' mL => ⟨_, H', fC.turn J3 mL, q⟩⟩
end
theorem Bs {scope : Scope} {env : Env} {x : Str} (h : scope.names.lookup x = some .cell ∨ scope.names.lookup x = some .free) : (relabel scope env).names.lookup x = some .cell ∨ (relabel scope env).names.lookup x = some .free := by
  rw [cT]
  rcases h with h | h
  · rw [h]; exact .inl rfl
  · rw [h]
    simp only [Option.map_some]
    split
    · exact .inl rfl
    · exact .inr rfl
theorem aE.rel {N : List Str} {sc scope : Scope} {env : Env} {N' : List Str} {tn : Nat} {idx : List Nat} (B : aE N sc scope N' tn idx) : aE N (relabel sc env) scope N' tn idx :=
  ⟨B.1, fun y hy => ⟨(B.2.1 y hy).1, (B.2.1 y hy).2.1, fun z => Bs ((B.2.1 y hy).2.2 z)⟩, B.2.2.1, B.2.2.2⟩
end L2
namespace L2
open PySem PySem.Spec PySem.W PyProof.Rows
section
variable {X : Cx} {Γ : Gz} {β : Bz} {K : PySem.W.Frag}
theorem Pin.mono {M M' : Mh} {d : Dv} (h : Pin M d) : (∀ a, (M a).isSome = true → (M' a).isSome = true) → Pin M' d := by
  intro k
  induction h with
  | int i => exact .int i
  | bl b => exact .bl b
  | aq => exact .aq
  | str z => exact .str z
  | tup h ih => exact .tup ih
  | lst h ih => exact .lst ih
  | dk h ih => exact .dk ih
  | dt h ih => exact .dt ih
  | bC h ih => exact .bC ih
  | set ns => exact .set ns
  | ptr h => exact .ptr (k _ h)
  | exc C => exact .exc C
  | bh ns => exact .bh ns
  | raw v => exact .raw v
noncomputable def cY (M : Mh) (a : Addr) : Mh := fun b => if b = a then none else M b
theorem dS {M : Mh} {a : Addr} : cY M a a = none := by unfold cY; rw [if_pos rfl]
theorem cN {M : Mh} {a b : Addr} (h : b ≠ a) : cY M a b = M b := by unfold cY; rw [if_neg h]
structure G5 (M1 M : Mh) (ρ : aA) : Prop where
  env : ∀ (i : Nat) (d : Dv), ρ[i]? = some (some d) → Pin M d
  obj : ∀ b o, M b = some o → M1 b = some o ∨ ∀ d ∈ o.items, Pin M d
theorem Zr.freeze {M : Mh} {ρ : aA} {σ : St} {H : Hp} {i : Nat} {a : Addr} {ds : List Dv} (z : Zr Γ β M ρ σ H) (hi : ρ[i]? = some (some (.ptr a))) (ha : M a = some (.lst ds)) (h0 : Γ.M0 a = none) (fr : G5 Γ.M0 (cY M a) (ρ.set i (some (.lst ds)))) :
    Zr Γ β (cY M a) (ρ.set i (some (.lst ds))) σ H ∧ Ev β M H (cY M a) H := by
  have rz : ∀ {v : V} {d : Dv}, Rz β M H v d → Pin (cY M a) d → Rz β (cY M a) H v d := fun r p => r.mx (M0 := cY M a) (fun b hb => by
    by_cases e : b = a
    · rw [e, dS] at hb; cases hb
    · rw [cN e] at hb; exact hb) p
  have qu : i < ρ.length := (List.getElem?_eq_some_iff.mp hi).1
  have Nu : ∀ d ∈ ds, Pin (cY M a) d := fun d hd => by
    have := fr.env i (.lst ds) (by rw [List.getElem?_set_self qu])
    cases this with | lst h => exact h d hd
  have obj : ∀ b es, cY M a b = some es → ∀ d ∈ es.items, Pin (cY M a) d := fun b es e d hd => by
    rcases fr.obj b es e with q | q
    · refine (z.wf b es q d hd).mono fun c hc => ?_
      have nc : c ≠ a := fun w => by rw [w, h0] at hc; cases hc
      rw [cN nc]
      exact z.ent.dom c hc
    · exact q d hd
  have mz : Mz β (cY M a) H := by
    refine ⟨fun b o e => ?_, z.mz.tabs, z.mz.hids, fun b o e => ?_, z.mz.lams⟩
    · have nb : b ≠ a := fun q => by rw [q, dS] at e; cases e
      have e' : M b = some o := by rw [cN nb] at e; exact e
      have q := z.mz.obj b o e'
      cases o with
      | lst es => obtain ⟨vs, hv, rs⟩ := q; exact ⟨vs, hv, rs.len, fun j v d x y => rz (rs.at' j v d x y) (obj b _ e d (List.mem_of_getElem? y))⟩
      | dk ks es => obtain ⟨vs, hv, hk, rs⟩ := q; exact ⟨vs, hv, hk, rs.len, fun j v d x y => rz (rs.at' j v d x y) (obj b _ e d (List.mem_of_getElem? y))⟩
      | dt ks es => obtain ⟨vs, hv, hk, rs⟩ := q; exact ⟨vs, hv, hk, rs.len, fun j v d x y => rz (rs.at' j v d x y) (obj b _ e d (List.mem_of_getElem? y))⟩
      | cF => exact q
    · have nb : b ≠ a := fun q => by rw [q, dS] at e; cases e
      rw [cN nb] at e
      exact z.mz.apart b o e
  refine ⟨⟨z.eP, z.ew, z.eK, z.et, z.sub, z.wf, ⟨z.ent.keep, fun b hb => ?_, fun b o m h => ?_⟩, mz, by simp [z.len], fun j d e => ?_⟩, ⟨fun b o _ h => .inl h, fun b o m h => ?_, mz⟩⟩
  · have nb : b ≠ a := fun q => by rw [q, h0] at hb; cases hb
    rw [cN nb]; exact z.ent.dom b hb
  · by_cases e : b = a
    · rw [e, dS]
    · rw [cN e]; exact z.ent.new b o m h
  · have p := fr.env j d e
    rw [List.getElem?_set] at e
    split at e
    · rename_i q
      subst q
      first
        | cases e
        | (rw [if_pos qu] at e; cases e)
      obtain ⟨v, hv, r⟩ := z.at' i _ hi
      obtain ⟨rfl, _⟩ := cC r
      obtain ⟨vs, hl, rs⟩ := z.mz.obj a _ ha
      refine ⟨_, hv, .lst ⟨dS, z.mz.apart a _ ha⟩ hl rs.len fun k v d x y => rz (rs.at' k v d x y) (Nu d (List.mem_of_getElem? y))⟩
    · obtain ⟨v, hv, r⟩ := z.at' j d e
      exact ⟨v, hv, rz r p⟩
  · by_cases e : b = a
    · rw [e, dS]
    · rw [cN e]; exact m
noncomputable def LR (i : Nat) (M0 : Mh) (p : cp) : cp := fun D ρ M => p D ρ M ∨ ∃ a ds, ρ[i]? = some (some (.ptr a)) ∧ M a = some (.lst ds) ∧ M0 a = none ∧ G5 M0 (cY M a) (ρ.set i (some (.lst ds))) ∧ p D (ρ.set i (some (.lst ds))) (cY M a)
theorem G6 (i : Nat) {M1 : Mh} {st : Stmt} {p : cp} (hM : Γ.M0 = M1) (h : QS Γ X st p) : QS Γ X st (LR i M1 p) := h.imp fun D σ H ⟨β, ρ, M, D', zr, h, r⟩ => by
  rcases h with h | ⟨a, ds, hi, ha, h0, fr, h⟩
  · exact ⟨β, ρ, M, D', zr, h, r⟩
  · obtain ⟨z2, e2⟩ := zr.freeze hi ha (by rw [hM]; exact h0) (by rw [hM]; exact fr)
    exact ⟨β, _, _, D', z2, h, r.step e2⟩
end
end L2
namespace L2
open PySem PySem.Spec PyProof.Rows
section
variable {κ : Type} [DecidableEq κ] {α : Type}
noncomputable def look : List κ → List α → κ → Option α
  | k :: ks, d :: ds, x => if k = x then some d else look ks ds x
  | _, _, _ => none
noncomputable def gS : List κ → List α → κ → α → List α
  | k :: ks, d :: ds, x, y => (if k = x then y else d) :: gS ks ds x y
  | _, _, _, _ => []
noncomputable def putL (ks : List κ) (k : κ) : List κ := if k ∈ ks then ks else ks ++ [k]
noncomputable def fJ (ks : List κ) (ds : List α) (k : κ) (d : α) : List α := if k ∈ ks then gS ks ds k d else ds ++ [d]
theorem fW {x : κ} : ∀ {ks : List κ} {ds : List α}, ks.length = ds.length → (look ks ds x = none ↔ x ∉ ks)
  | [], [], _ => by simp [look]
  | k :: ks, d :: ds, h => by
    have ih := fW (x := x) (ks := ks) (ds := ds) (by simpa using h)
    unfold look
    by_cases e : k = x
    · simp [e]
    · rw [if_neg e, ih, List.mem_cons]
      constructor
      · rintro a (b | b)
        · exact e b.symm
        · exact a b
      · exact fun a b => a (.inr b)
  | [], _ :: _, h => by simp at h
  | _ :: _, [], h => by simp at h
theorem nF (x : κ) : ∀ (ks : List κ) (vs : List V), h8 (ks.zip vs) x = look ks vs x
  | [], vs => by cases vs <;> rfl
  | _ :: _, [] => rfl
  | k :: ks, v :: vs => by
    rw [List.zip_cons_cons]
    unfold look
    by_cases e : k = x
    · rw [if_pos e]; exact ke (p := (k, v)) e
    · rw [if_neg e, kf (p := (k, v)) e]; exact nF x ks vs
theorem tu (x : κ) : ∀ (ks : List κ) (ds : List α) {d : α}, look ks ds x = some d → ∃ i : Nat, ks[i]? = some x ∧ ds[i]? = some d ∧ ∀ {β : Type} (es : List β), look ks es x = es[i]?
  | [], ds, d, h => by cases ds <;> cases h
  | _ :: _, [], d, h => by cases h
  | k :: ks, e :: ds, d, h => by
    unfold look at h
    by_cases q : k = x
    · rw [if_pos q] at h
      cases h
      refine ⟨0, by rw [q]; rfl, rfl, fun es => ?_⟩
      cases es with
      | nil => rfl
      | cons a es => unfold look; rw [if_pos q]; rfl
    · rw [if_neg q] at h
      obtain ⟨i, a, b, c⟩ := tu x ks ds h
      refine ⟨i + 1, a, b, fun es => ?_⟩
      cases es with
      | nil => rfl
      | cons y es => unfold look; rw [if_neg q, c es]; rfl
theorem lF (x : κ) : ∀ (ks : List κ) (ds : List α) {β : Type} (es : List β), ds.length = es.length → look ks ds x = none → look ks es x = none
  | [], ds, _, es, _, _ => by cases es <;> rfl
  | _ :: _, [], _, es, h, _ => by cases es with
    | nil => rfl
    | cons _ _ => simp at h
  | k :: ks, d :: ds, _, [], h, _ => by simp at h
  | k :: ks, d :: ds, _, e :: es, h, q => by
    unfold look at q ⊢
    by_cases z : k = x
    · rw [if_pos z] at q; cases q
    · rw [if_neg z] at q ⊢
      exact lF x ks ds es (by simpa using h) q
theorem qQ (x : κ) (y : α) : ∀ (ks : List κ) (ds : List α), ks.length = ds.length → (gS ks ds x y).length = ds.length
  | [], [], _ => rfl
  | k :: ks, d :: ds, h => by unfold gS; rw [List.length_cons, qQ x y ks ds (by simpa using h)]; rfl
  | [], _ :: _, h => by simp at h
  | _ :: _, [], h => by simp at h
theorem tD {ks : List κ} {ds : List α} (h : ks.length = ds.length) (k : κ) (d : α) : (putL ks k).length = (fJ ks ds k d).length := by
  unfold putL fJ
  split
  · rw [qQ _ _ _ _ h, h]
  · simp [h]
theorem qR (x : κ) (y : V) : ∀ (ks : List κ) (vs : List V), ks.length = vs.length → (ks.zip vs).map (fun kv => if kv.1 = x then (kv.1, y) else kv) = ks.zip (gS ks vs x y)
  | [], [], _ => rfl
  | k :: ks, d :: ds, h => by
    unfold gS
    rw [List.zip_cons_cons, List.zip_cons_cons, List.map_cons, qR x y ks ds (by simpa using h)]
    congr 1
    dsimp only
    split <;> rfl
  | [], _ :: _, h => by simp at h
  | _ :: _, [], h => by simp at h
theorem vi {ks : List κ} {vs : List V} (h : ks.length = vs.length) (k : κ) (v : V) : putK (ks.zip vs) k v = (putL ks k).zip (fJ ks vs k v) := by
  have e : ((ks.zip vs).any fun kv => decide (kv.1 = k)) = decide (k ∈ ks) := by
    rw [nj, nF]
    cases q : look ks vs k with
    | none => exact (decide_eq_false ((fW h).mp q)).symm
    | some x =>
      have hm : k ∈ ks := Classical.byContradiction fun z => by rw [(fW h).mpr z] at q; cases q
      rw [decide_eq_true hm]; rfl
  unfold putK putL fJ
  rw [e]
  by_cases q : k ∈ ks
  · rw [if_pos (decide_eq_true q), if_pos q, if_pos q]
    exact qR k v ks vs h
  · rw [if_neg (by rw [decide_eq_false q]; exact Bool.false_ne_true), if_neg q, if_neg q, List.zip_append h]
    rfl
end
section
variable {β : Bz} {M : Mh} {H : Hp} {κ : Type} [DecidableEq κ]
theorem qS (x : κ) {v : V} {d : Dv} (r : Rz β M H v d) : ∀ (ks : List κ) (vs : List V) (ds : List Dv), aD β M H vs ds → aD β M H (gS ks vs x v) (gS ks ds x d)
  | [], _, _, _ => by
    unfold gS; exact .nil
  | _ :: _, [], [], _ => .nil
  | _ :: _, [], _ :: _, h => absurd h.len (by simp)
  | _ :: _, _ :: _, [], h => absurd h.len (by simp)
  | k :: ks, u :: vs, e :: ds, h => by
    unfold gS
    refine .cons ?_ (qS x r ks vs ds h.tail)
    split
    · exact r
    · exact h.head
theorem tE (x : κ) {v : V} {d : Dv} (r : Rz β M H v d) {ks : List κ} {vs : List V} {ds : List Dv} (h : aD β M H vs ds) : aD β M H (fJ ks vs x v) (fJ ks ds x d) := by
  unfold fJ
  split
  · exact qS x r ks vs ds h
  · exact h.snoc r
theorem tF {ks : List κ} {vs : List V} {ds : List Dv} (rs : aD β M H vs ds) {x : κ} {o : Option Dv} (h : look ks ds x = o) : ∃ ov, h8 (ks.zip vs) x = ov ∧ ov.isSome = o.isSome ∧ ∀ r, o = some r → ∃ v, ov = some v ∧ Rz β M H v r := by
  rw [nF]
  cases o with
  | none => exact ⟨none, lF x ks ds vs rs.len.symm h, rfl, fun r e => nomatch e⟩
  | some r =>
    obtain ⟨i, a, b, c⟩ := tu x ks ds h
    obtain ⟨v, hv, rv⟩ := rs.get b
    exact ⟨some v, (c vs).trans hv, rfl, fun r' e => by cases e; exact ⟨v, rfl, rv⟩⟩
end
noncomputable def keyD : Dv → Option Key
  | .int i => some (.inl i)
  | .str z => some (.inr z)
  | _ => none
noncomputable def iB : List Dv → Option (List Key)
  | [] => some []
  | d :: ds => match keyD d, iB ds with | some k, some ks => some (k :: ks) | _, _ => none
theorem oO : ∀ (ns : List Int), iB (ns.map Dv.int) = some (ns.map Sum.inl)
  | [] => rfl
  | n :: ns => by rw [List.map_cons, iB, oO ns]; rfl
noncomputable def nowK (M : Mh) : Dv → Dv
  | .ptr a => match M a with | some (.dk ks ds) => .dk ks ds | some (.dt ks ds) => .dt ks ds | _ => .ptr a
  | d => d
noncomputable def lookD (M : Mh) (d e : Dv) : Option (Option Dv) := match nowK M d with
  | .dk ks ds => (match keyD e with | some k => some (look ks ds k) | none => none)
  | .dt ks ds => (match e with | .tup es => (match iB es with | some k => some (look ks ds k) | none => none) | _ => none)
  | _ => none
section
variable {X : Cx} {Γ : Gz} {β : Bz} {K : PySem.W.Frag} {M : Mh} {H : Hp}
theorem pM {y : V} {e : Dv} {k : Key} (r : Rz β M H y e) (h : keyD e = some k) : y = kV k := by
  cases e with
  | int i => cases h; exact aL r
  | str z => cases h; exact cQ r
  | _ => cases h
theorem kn : ∀ {es : List Dv} {ks : List Key} {vs : List V}, aD β M H vs es → iB es = some ks → vs = ks.map kV
  | [], ks, vs, rs, h => by
    cases h
    cases vs with
    | nil => rfl
    | cons _ _ => exact absurd rs.len (by simp)
  | e :: es, ks, [], rs, h => absurd rs.len (by simp)
  | e :: es, ks, v :: vs, rs, h => by
    unfold iB at h
    split at h
    · rename_i k Kq h1 h2
      cases h
      rw [List.map_cons, pM rs.head h1, kn rs.tail h2]
    · cases h
theorem vj (m : Mz β M H) {x : V} {d : Dv} (r : Rz β M H x d) : (∀ ks ds, nowK M d = .dk ks ds → ∃ a vs, x = .ref a ∧ Rd H a (.dK (ks.zip vs)) ∧ ks.length = vs.length ∧ aD β M H vs ds) ∧
    (∀ ks ds, nowK M d = .dt ks ds → ∃ a vs, x = .ref a ∧ Rd H a (.dT (ks.zip vs)) ∧ ks.length = vs.length ∧ aD β M H vs ds) := by
  cases r with
  | dk f e hk hl h => exact ⟨fun ks ds q => (by cases q; exact ⟨_, _, rfl, e, hk, hl, h⟩), fun ks ds q => by cases q⟩
  | dt f e hk hl h => exact ⟨fun ks ds q => (by cases q), fun ks ds q => by cases q; exact ⟨_, _, rfl, e, hk, hl, h⟩⟩
  | @ptr a hs =>
    simp only [nowK]
    cases q2 : M a with
    | none => rw [q2] at hs; cases hs
    | some o =>
      have q := m.obj a o q2
      cases o with
      | dk ks ds => obtain ⟨vs, e, hk, rs⟩ := q; exact ⟨fun ks ds q => (by cases q; exact ⟨_, _, rfl, .inl e, hk, rs⟩), fun ks ds q => by cases q⟩
      | dt ks ds => obtain ⟨vs, e, hk, rs⟩ := q; exact ⟨fun ks ds q => (by cases q), fun ks ds q => by cases q; exact ⟨_, _, rfl, .inl e, hk, rs⟩⟩
      | _ => exact ⟨fun ks ds q => (by cases q), fun ks ds q => by cases q⟩
  | _ => exact ⟨fun ks ds q => (by cases q), fun ks ds q => (by cases q)⟩
theorem tG (m : Mz β M H) {x y : V} {d e : Dv} {o : Option Dv} (r : Rz β M H x d) (re : Rz β M H y e) (h : lookD M d e = some o) : ∃ a ov, x = .ref a ∧ pD H a y ov ∧ ov.isSome = o.isSome ∧ ∀ r, o = some r → ∃ v, ov = some v ∧ Rz β M H v r := by
  unfold lookD at h
  obtain ⟨h1, h2⟩ := vj m r
  split at h
  · rename_i ks ds q
    obtain ⟨a, vs, rfl, ha, hk, rs⟩ := h1 ks ds q
    split at h
    · rename_i k tH
      rw [pM re tH]
      obtain ⟨ov, e1, e2, e3⟩ := tF rs (Option.some.inj h)
      subst e1
      exact ⟨a, _, rfl, .inl ⟨_, k, ha, rfl, rfl⟩, e2, e3⟩
    · cases h
  · rename_i ks ds q
    obtain ⟨a, vs, rfl, ha, hk, rs⟩ := h2 ks ds q
    split at h
    · split at h
      · rename_i k tH
        obtain ⟨b, us, rfl, _, hb, ru⟩ := c9 re
        rw [kn ru tH] at hb
        obtain ⟨ov, e1, e2, e3⟩ := tF rs (Option.some.inj h)
        subst e1
        exact ⟨a, _, rfl, .inr ⟨_, k, b, ha, rfl, hb, rfl⟩, e2, e3⟩
      · cases h
    · cases h
  · cases h
noncomputable def zGetR : dZ := fun d e M Q => match lookD M d e with | some (some r) => Q r M | _ => False
theorem D0 {a b : Expr} {pa pb : aK} {pos : Pos} (hu : X.A.units + 64 < cLine) (ha : QE Γ X a pa) (hb : QE Γ X b pb) (hs : Bi b) : QE Γ X (.Subscript a b pos) (zOp zGetR pa pb) :=
  (DM (by omega) ha hb hs).imp fun σ H Q ⟨β, ρ, M, Q', zr, h, q⟩ => ⟨β, ρ, M, _, zr, h, fun d M1 v H1 x1 r1 h1 => ⟨β, ρ, M1, _, zr.step x1, h1, fun e M2 u H2 x2 r2 h2 => by
    unfold zGetR at h2
    split at h2
    · rename_i r hl
      obtain ⟨a, ov, rfl, g, _, e3⟩ := tG x2.mz (r1.ex x2) r2 hl
      obtain ⟨w, rfl, jO⟩ := e3 r rfl
      exact ⟨a, w, rfl, g, q _ _ _ _ (x1.trans x2) jO h2⟩
    · exact h2.elim⟩⟩
noncomputable def zDIn (neg : Bool) : dZ := fun e d M Q => match lookD M d e with | some o => Q (.bl (if neg then !o.isSome else o.isSome)) M | none => False
noncomputable def G7 (neg : Bool) : R2 := fun y x H Q => ∃ a o, x = .ref a ∧ pD H a y o ∧ Q (.bl (if neg then !o.isSome else o.isSome)) H
theorem D1 {neg : Bool} : oF Γ (G7 neg) (zDIn neg) := fun β x y d e M H Q Q' _ _ _ m rx ry z q => by
  unfold zDIn at z
  split at z
  · rename_i o hl
    obtain ⟨a, ov, rfl, g, e2, _⟩ := tG m ry rx hl
    refine ⟨a, ov, rfl, g, ?_⟩
    rw [e2]
    exact q _ _ _ _ (.refl m) (.bl _) z
  · exact z.elim
theorem tI (hu : X.A.units + 64 < cLine) : du Γ X (compareOp .NotIn) (zDIn true) := ⟨G7 true, fun pins s σ H x y v u Q I rx ry ⟨a, o, e, g, q⟩ => by
  subst e
  cases (show u = Value.ref a from ry)
  exact DK (by omega) I g rx fun s3 I3 => ⟨.bl (!o.isSome), H, I3, rfl, q⟩, D1⟩
end
section
variable {β : Bz} {M : Mh} {H : Hp} {D : Addr} {o' : Mo} {u : HO}
theorem D2 {v : V} {d : Dv} (r : Rz (β.add D) M H v d) : Rz β (ax M D o') (upd H D u) v d := by
  have na : ∀ a, Fz (β.add D) M a → a ≠ D := fun a f z => f.2 (by rw [z]; exact List.mem_cons_self)
  have ne : ∀ a, Fz (β.add D) M a → Fz β (ax M D o') a := fun a f => ⟨by rw [ak (na a f)]; exact f.1, fun z => f.2 (List.mem_cons_of_mem _ z)⟩
  have pre : ∀ a x, Fz (β.add D) M a → H a = some x → upd H D u a = some x := fun a x f e => by rw [ae (na a f)]; exact e
  induction r with
  | int i => exact .int i
  | bl b => exact .bl b
  | aq => exact .aq
  | str z => exact .str z
  | tup m e hl h ih => exact .tup (ne _ m) (pre _ _ m e) hl ih
  | lst m e hl h ih => exact .lst (ne _ m) (pre _ _ m e) hl ih
  | dk m e hk hl h ih => exact .dk (ne _ m) (e.map fun _ h => pre _ _ m h) hk hl ih
  | dt m e hk hl h ih => exact .dt (ne _ m) (e.map fun _ h => pre _ _ m h) hk hl ih
  | bC m e m2 e2 hl h ih => exact .bC (ne _ m) (pre _ _ m e) (ne _ m2) (pre _ _ m2 e2) hl ih
  | set m e => exact .set (ne _ m) (pre _ _ m e)
  | ptr m => exact .ptr (by unfold ax; split; rfl; exact m)
  | exc m e => exact .exc (ne _ m) (pre _ _ m e)
  | bh m e => exact .bh (ne _ m) (pre _ _ m e)
  | b8 m e => exact .b8 (ne _ m) (pre _ _ m e)
  | b9 e => exact .b9 e
  | raw v => exact .raw v
theorem ko {vs : List V} {ds : List Dv} (r : aD (β.add D) M H vs ds) : aD β (ax M D o') (upd H D u) vs ds := ⟨r.len, fun i v d a b => D2 (r.at' i v d a b)⟩
theorem Ex.G8 {M2 : Mh} {H2 : Hp} {o : HO} (x : Ex β M H M2 H2) (hD : D ∈ β.hid) (m : M D = none) (h : H D = some o) (ho : i5 o = true) : H2 D = some o := by
  rcases x.keep D o m h with q | ⟨o', t, q⟩
  · exact q
  · rcases t with ⟨_, _, rfl, _⟩ | ⟨_, _, rfl, _⟩ | ⟨_, ob, rfl⟩
    · cases ho
    · cases ho
    · obtain ⟨w, e, n⟩ := x.mz.hids D hD
      rw [q] at e; cases e; cases n
theorem Mz.LU (m : Mz (β.add D) M H) (hM : M D = none) (hD : D ∉ β.hid) (nt : D ∉ β.tb) (hu : lq u = true) (r : g6 β (ax M D o') (upd H D u) D o') : Mz β (ax M D o') (upd H D u) := by
  obtain ⟨oD, eD, nD⟩ := m.hids D List.mem_cons_self
  refine ⟨fun a o e => ?_, fun q hq => ?_, fun a ha => (m.hids a (List.mem_cons_of_mem _ ha)).upd (.inr hu), fun a o e z => ?_, fun q hq => ?_⟩
  · by_cases ha : a = D
    · subst ha
      rw [updM_same] at e
      cases e
      exact r
    · rw [ak ha] at e
      have z := m.obj a o e
      cases o with
      | lst ds => obtain ⟨vs, z, rs⟩ := z; exact ⟨vs, by rw [ae ha]; exact z, ko rs⟩
      | dk ks ds => obtain ⟨vs, z, hk, rs⟩ := z; exact ⟨vs, by rw [ae ha]; exact z, hk, ko rs⟩
      | dt ks ds => obtain ⟨vs, z, hk, rs⟩ := z; exact ⟨vs, by rw [ae ha]; exact z, hk, ko rs⟩
      | cF => obtain ⟨c, n, z, q⟩ := z; exact ⟨c, n, by rw [ae ha]; exact z, q⟩
  · obtain ⟨ps, e, t⟩ := m.tabs q hq
    exact ⟨ps, by rw [ae (show q ≠ D from fun z => nt (by rw [← z]; exact hq))]; exact e, t⟩
  · by_cases ha : a = D
    · exact hD (ha ▸ z)
    · rw [ak ha] at e
      exact m.apart a o e (List.mem_cons_of_mem _ z)
  · exact (m.lams q hq).keep (fun _ e => by rw [ae (fun z => by subst z; rw [eD] at e; cases e; cases nD)]; exact e) fun c _ _ e => by rw [ae (fun z => by subst z; rw [eD] at e; cases e; cases nD)]; exact e
end
section
variable {X : Cx} {pos : Pos}
noncomputable def D3 (tk tv : TE) : TE := fun σ H Q => ∀ p, H p = none → tk σ (upd H p (.dT [])) fun x H1 => tv σ H1 fun y H2 => H2 p = some (.dT []) ∧ ∃ b k, x = .ref b ∧ H2 b = some (.tup (k.map kV)) ∧ Q (.ref p) (upd H2 p (.dT [(k, y)]))
theorem zt {k v : Expr} {tk tv : TE} (hu : X.A.units + 1 < cLine) (hk : PE X k tk) (hv : PE X v tv) : PE X (.Dict [some k] [v] pos) (D3 tk tv) := by
  refine ⟨?_⟩
  intro pins s σ H Q I q
  have hn := I.hok.fresh (Nat.le_refl s.heap.objs.size)
  have I1 := I.laid (a := s.heap.objs.size) (o := .dT []) (h' := s.heap.push { cls := .type "dict", data := .dict #[] }) (t' := s.toks) (fun _ _ q => Heap.get?_push_of_some _ q) (Nat.le_refl _) (Bk s.heap I.big)
  refine wpAny_Dict_any rfl rfl (by simp) (by simp) (pairTrees_cons_walk (thn (hk pins _ σ _ _ I1 (q _ hn)) fun w1 s2 ⟨x, H1, I2, rx, q1⟩ => thn (hv pins s2 σ H1 _ I2 q1) fun w2 s3 ⟨y, H2, I3, ry, hp, b, ks, ex, hb, q2⟩ => pairTrees_nil_walk ?_))
  subst ex
  cases (show w1 = Value.ref b from rx)
  unfold storeAll
  rw [List.forIn_cons]
  obtain ⟨z, hd, xs, rel, dd⟩ := Cr I3.hok hp
  cases rel
  refine wpAny_bind (wpAny_bind (wpAny_dictSet_heap (knd := tupleKind (bJ X.prog X.w)) (by show X.A.units < cLine; omega) (ll I3.hok hb) dd (fun h' u9 hs => wpAny_pure ?_) (by simp)))
  dsimp only
  rw [List.forIn_nil]
  refine wpAny_pure ⟨.ref s.heap.objs.size, _, ?_, rfl, q2⟩
  obtain ⟨o, es, ep, ho, h2, h3, h4, h5, h6⟩ := u9
  have he : storedH ([] : List (List Key × Addr × Value)) ks b w2 = [(ks, b, w2)] := rfl
  rw [he] at h4 h6
  refine pE I3 (by rw [hp]; exact True.intro) hs ⟨o, ho⟩ ⟨by show 1 ≤ sizeLine; decide, hd, [(ks, b, w2)], .cons ⟨rfl, ?_, ry⟩ .nil, o, es, ep, ho, h2, h3, h4, h6⟩
  rw [ae (vF hb hp (by intro z; cases z))]
  exact hb
end
section
variable {X : Cx} {Γ : Gz} {β : Bz} {K : PySem.W.Frag}
noncomputable def zDisp1K (pk pv : aK) : aK := fun ρ M Q => pk ρ M fun e M1 => pv ρ M1 fun v M2 => match keyD e with | some k => ∀ a, M2 a = none → Q (.ptr a) (ax M2 a (.dk [k] [v])) | none => False
noncomputable def zDisp1T (pk pv : aK) : aK := fun ρ M Q => pk ρ M fun e M1 => pv ρ M1 fun v M2 => match e with | .tup es => (match iB es with | some k => ∀ a, M2 a = none → Q (.ptr a) (ax M2 a (.dt [k] [v])) | none => False) | _ => False
theorem D4 {M M2 : Mh} {H H2 : Hp} {D : Addr} {o : HO} {o' : Mo} {u : HO} (hD : H D = none) (x : Ex (β.add D) M (upd H D o) M2 H2) (mz : Mz β (ax M2 D o') (upd H2 D u)) : Ex β M H (ax M2 D o') (upd H2 D u) := by
  have ey : Ey M H M2 (upd H2 D u) := ((Ey.refl (M := M) (H := H)).over (o := o) hD |>.trans x.toEy).over hD
  exact ⟨⟨ey.keep, fun a h => by unfold ax; split; rfl; exact ey.dom a h, fun a w m e => by rw [ak (aU e hD)]; exact ey.new a w m e⟩, mz⟩
theorem qT {k v : Expr} {pk pv : aK} {pos : Pos} (hu : X.A.units + 64 < cLine) (hk : QE Γ X k pk) (hv : QE Γ X v pv) : QE Γ X (.Dict [some k] [v] pos) (zDisp1T pk pv) :=
  (zt (by omega) hk hv).imp fun σ H Q ⟨β, ρ, M, Q', zr, h, q⟩ p hp => by
    have z1 := zr.enter hp (o := .dT []) rfl
    refine ⟨β.add p, ρ, M, _, z1, h, fun e M1 y H1 x1 r1 h1 => ⟨β.add p, ρ, M1, _, z1.step x1, h1, fun d M2 w H2 x2 r2 h2 => ?_⟩⟩
    have dw := x1.trans x2
    have Kr : M p = none := zr.mz.free hp
    have e2 : H2 p = some (.dT []) := dw.G8 List.mem_cons_self Kr ay rfl
    have Ks : M2 p = none := dw.new p _ Kr ay
    refine ⟨e2, ?_⟩
    split at h2
    · split at h2
      · rename_i es kk Nv
        obtain ⟨b, us, rfl, _, hb, ru⟩ := c9 (r1.ex x2)
        rw [kn ru Nv] at hb
        refine ⟨b, kk, rfl, hb, ?_⟩
        refine q _ _ _ _ (D4 (o' := .dt [kk] [d]) (u := .dT ([kk].zip [w])) hp dw (dw.mz.LU Ks (zr.mz.fz hp).2 (zr.mz.Bn hp) rfl ⟨[w], ay, rfl, ko (.cons r2 .nil)⟩)) (.ptr (by rw [updM_same]; rfl)) (h2 p Ks)
      · exact h2.elim
    · exact h2.elim
noncomputable def zDPut (pd pk pv : aK) : cp := fun D ρ M => pv ρ M fun v M1 => pd ρ M1 fun d M2 => pk ρ M2 fun e M3 => match d with
  | .ptr a => (match M3 a with
    | some (.dk ks ds) => (match keyD e with | some k => ks.length < sizeLine ∧ D.nx ρ (ax M3 a (.dk (putL ks k) (fJ ks ds k v))) | none => False)
    | some (.dt ks ds) => (match e with | .tup es => (match iB es with | some k => ks.length < sizeLine ∧ D.nx ρ (ax M3 a (.dt (putL ks k) (fJ ks ds k v))) | none => False) | _ => False)
    | _ => False)
  | _ => False
theorem vk {o i value : Expr} {pd pk pv : aK} {pos pos' : Pos} (hu : X.A.units + 64 < cLine) (ho : QE Γ X o pd) (hi : QE Γ X i pk) (hv : QE Γ X value pv) (hs : swapsWith value (some (.Subscript o i pos')) pos.line X.env = pure false := by rfl) :
    QS Γ X (.Assign [.Subscript o i pos'] value pos) (zDPut pd pk pv) := (DN (by omega) ho hi hv hs).imp fun D σ H ⟨β, ρ, M, D', zr, h, r⟩ => ⟨β, ρ, M, _, zr, h, fun v M1 vv H1 x1 r1 h1 => ⟨β, ρ, M1, _, zr.step x1, h1, fun d M2 dv H2 x2 r2 h2 =>
      ⟨β, ρ, M2, _, (zr.step x1).step x2, h2, fun e M3 ev H3 x3 r3 h3 => by
  have z3 := ((zr.step x1).step x2).step x3
  have i7 := x1.trans (x2.trans x3)
  have rv := (r1.ex x2).ex x3
  split at h3
  · rename_i a
    obtain ⟨rfl, hs⟩ := cC r2
    split at h3
    · rename_i ks ds hM
      obtain ⟨vs, ha, hk, rs⟩ := x3.mz.obj a _ hM
      split at h3
      · rename_i k tH
        obtain ⟨hl, h3⟩ := h3
        have hp : (M3 a).isSome = true := by rw [hM]; rfl
        have x4 : Ex β M3 H3 (ax M3 a (.dk (putL ks k) (fJ ks ds k v))) (upd H3 a (.dK ((putL ks k).zip (fJ ks vs k vv)))) := Ex.LJ x3.mz (.inl hp) (tD hk k vv) (tE k rv rs)
        refine ⟨a, _, rfl, .inl ⟨_, k, ha, pM r3 tH, by rw [List.length_zip, ← hk, Nat.min_self]; exact hl, rfl⟩, ?_⟩
        rw [vi hk]
        exact r.nx _ _ _ _ (i7.trans x4).ev (z3.step x4) h3
      · exact h3.elim
    · rename_i ks ds hM
      obtain ⟨vs, ha, hk, rs⟩ := x3.mz.obj a _ hM
      split at h3
      · split at h3
        · rename_i k tH
          obtain ⟨hl, h3⟩ := h3
          obtain ⟨b, us, rfl, _, hb, ru⟩ := c9 r3
          rw [kn ru tH] at hb
          have hp : (M3 a).isSome = true := by rw [hM]; rfl
          have x4 : Ex β M3 H3 (ax M3 a (.dt (putL ks k) (fJ ks ds k v))) (upd H3 a (.dT ((putL ks k).zip (fJ ks vs k vv)))) := Ex.LK x3.mz (.inl hp) (tD hk k vv) (tE k rv rs)
          refine ⟨a, _, rfl, .inr ⟨_, k, b, ha, rfl, hb, by rw [List.length_zip, ← hk, Nat.min_self]; exact hl, rfl⟩, ?_⟩
          rw [vi hk]
          exact r.nx _ _ _ _ (i7.trans x4).ev (z3.step x4) h3
        · exact h3.elim
      · exact h3.elim
    · exact h3.elim
  · exact h3.elim⟩⟩⟩
end
noncomputable def fK (X : Cx) : Str := X.env.qual ++ "<lambda>"
structure G9 (X : Cx) (params : Arguments) (body : Expr) (scope : Scope) (o : Obj) (c : Addr) (oc : Obj) (aN : List (Str × Addr)) : Prop where
  cells : ∀ n a, aN.lookup n = some a → X.env.cells.lookup n = some a
  has : ∀ n, (n, NameKind.free) ∈ scope.names → ∃ a, aN.lookup n = some a
  obj : ∃ iu, o = PySem.W.kla_obj "<lambda>" (fK X) params body scope aN ((X.mg "__name__").getD .none) c iu
  code : ∃ vs t, oc.data = .fields vs ∧ vs[1]? = some (Value.str (fK X) t)
structure Ha (X : Cx) (P : Addr) (H H2 : Hp) (f : Addr) (o : Obj) (c : Addr) (oc : Obj) : Prop where
  new : H f = none
  at' : ∃ u, H2 f = some (.bA o u)
  cd : ∃ u, H2 c = some (.bA oc u)
  lm : Lm H2 (P, fK X)
  keep : ∀ b u, H b = some u → b ≠ P → H2 b = some u
  tab : ∃ ps, H P = some (.lam ps)
noncomputable def LV (X : Cx) (P : Addr) (params : Arguments) (body : Expr) (scope : Scope) : TE := fun _ H Q => Lm H (P, fK X) ∧ ∀ f o c oc aN H2, G9 X params body scope o c oc aN → Ha X P H H2 f o c oc → Q (.ref f) H2
noncomputable def jf (a : Addr) (o : Obj) : HO := .bA o (.ext fun h => h.get? a = some o)
theorem tJ {P : Program} {w : World} {H : Hp} {h : Heap} {a : Addr} {o : Obj} (e : h.get? a = some o) : ObjOk P w H h a (jf a o) := ⟨e, e, ⟨o, e⟩, fun _ _ x k => k o x⟩
theorem zu {a b c cv : Value} {pos : Pos} (l : List Value) (h : TriplesOk l) (e : codeAmong pos (l ++ [a, b, c]) = some cv) : codeAmong pos l = some cv ∨ cv = c := by
  induction l using TriplesOk.induct with
  | case1 =>
    right
    simp only [List.nil_append] at e
    unfold codeAmong at e
    split at e
    · rename_i heq
      cases heq
      split at e
      · exact (Option.some.inj e).symm
      · simp [codeAmong] at e
    · cases e
  | case2 x tx y ty z rest ih =>
    simp only [List.cons_append, codeAmong] at e ⊢
    split at e
    · rename_i q
      rw [if_pos q]; exact .inl e
    · rename_i q
      rw [if_neg q]; exact ih h e
  | case3 l n1 n2 =>
    exfalso
    unfold TriplesOk at h
    split at h
    · exact n1 rfl
    · exact n2 _ _ _ _ _ _ rfl
    · exact h
section
variable {X : Cx} {params : Arguments} {body : Expr} {scope : Scope} {pos : Pos} {P cX : Addr}
theorem wM {pins : List (Addr × Obj)} {s : Shared} {σ : St} {H : Hp} {h' : Heap} {o : Obj} (I : Inv X pins σ H s) (hk : ∀ b u, s.heap.get? b = some u → h'.get? b = some u) (hsz : s.heap.objs.size ≤ h'.objs.size) (hc : o.isFreed = false) (tk : Nat) :
    Inv X pins σ (upd H h'.objs.size (jf h'.objs.size o)) { s with heap := h'.push o, toks := tk } :=
  I.laid (a := h'.objs.size) (o := jf h'.objs.size o) (t' := tk) (fun b u e => Heap.get?_push_of_some _ (hk b u e)) hsz (tJ (Heap.get?_push_size _ hc))
theorem wN {pins : List (Addr × Obj)} {s : Shared} {σ : St} {H : Hp} {h' : Heap} {o oc : Obj} {c : Addr} {ps gh : Array Value} (I : Inv X pins σ H s) (hP : H P = some (.lam ps)) (hx : Heap.ExtBut P s.heap h') (oP : s.heap.objs.size ≤ c) (aT : c < h'.objs.size) (p0 : h'.get? c = some oc)
    (CB : h'.get? P = some { cls := .none, data := .fields gh }) (hc : o.isFreed = false) (tk : Nat) :
    Inv X pins σ (upd (upd (upd H P (.lam gh)) c (jf c oc)) h'.objs.size (jf h'.objs.size o)) { s with heap := h'.push o, toks := tk } := by
  have Hb : P < s.heap.objs.size := (I.hok P _ hP).lt
  have hsz : s.heap.objs.size ≤ h'.objs.size := Nat.le_of_lt (Nat.lt_of_le_of_lt oP aT)
  have old : ∀ b, b < s.heap.objs.size → b ≠ P → upd (upd (upd H P (.lam gh)) c (jf c oc)) h'.objs.size (jf h'.objs.size o) b = H b := fun b hb n => by
    rw [ae (Nat.ne_of_lt (Nat.lt_of_lt_of_le hb hsz)), ae (Nat.ne_of_lt (Nat.lt_of_lt_of_le hb oP)), ae n]
  have O6 : upd (upd (upd H P (.lam gh)) c (jf c oc)) h'.objs.size (jf h'.objs.size o) P = some (.lam gh) := by
    rw [ae (Nat.ne_of_lt (Nat.lt_of_lt_of_le Hb hsz)), ae (Nat.ne_of_lt (Nat.lt_of_lt_of_le Hb oP)), ay]
  have k : ∀ b u, b ≠ P → s.heap.get? b = some u → (h'.push o).get? b = some u := fun b u n e => Heap.get?_push_of_some _ (hx b u n e)
  have zv : ∀ b u, H b = some u → b < s.heap.objs.size := fun b u e => (I.hok b u e).lt
  have nP : ∀ b, H b = none → b ≠ P := fun b e z => by rw [z, hP] at e; cases e
  have nT : ∀ b u, H b = some u → (∀ ps, u ≠ .lam ps) → b ≠ P := fun b u e n z => by rw [z, hP] at e; cases e; exact n _ rfl
  refine I.un ⟨fun b u q n _ _ => k b u (nP b n) q, fun b u q n _ _ => ⟨u.slots, k b u (nP b n) q⟩, fun b u q n _ => by rw [old b (Heap.lt_size q) (nP b n)]; exact n, fun b u q _ => ?_, fun b xs q => by rw [old b (zv b _ q) (nT b _ q (by intro _ z; cases z))]; exact q,
    fun b u xs q => by rw [old b (zv b _ q) (nT b _ q (by intro _ z; cases z))]; exact q, fun b qs q => ⟨#[], by rw [old b (zv b _ q) (nT b _ q (by intro _ z; cases z)), q]; simp⟩⟩ fun b u q => ?_
  · by_cases e : b = P
    · subst e; exact ⟨_, Heap.get?_push_of_some _ CB⟩
    · exact ⟨u, k b u e q⟩
  · by_cases e1 : b = h'.objs.size
    · subst e1
      rw [ay] at q; cases q
      exact tJ (Heap.get?_push_size _ hc)
    · rw [ae e1] at q
      by_cases e2 : b = c
      · subst e2
        rw [ay] at q; cases q
        exact tJ (Heap.get?_push_of_some _ p0)
      · rw [ae e2] at q
        by_cases e3 : b = P
        · subst e3
          rw [ay] at q; cases q
          exact Heap.get?_push_of_some _ CB
        · rw [ae e3] at q
          refine (I.hok b u q).bO (fun a v hc q => k a v ?_ q) (fun a z => ?_) fun a xs z => ?_
          · rcases hc with z | z
            · rw [z]; exact e3
            · exact nT a _ z (by intro _ w; cases w)
          · rw [old a (zv a _ z) (nT a _ z (by intro _ w; cases w))]; exact z
          · rw [old a (zv a _ z) (nT a _ z (by intro _ w; cases w))]; exact z
theorem Hc (fw : X.env.code = .ref cX) (hd : PySem.W.CodeHd X.base cX P) (ej : ∃ bm ob, BMod X.base mainGlobals X.mg bm ob) (Bt : defaultsOf params X.env = ([], []))
    (lZ : ∀ n, (n, NameKind.free) ∈ scope.names → X.env.kindOf n = some .cell ∨ X.env.kindOf n = some .free) : PE X (.Lambda params body scope pos) (LV X P params body scope) := by
  refine ⟨?_⟩
  intro pins s σ H Q I ⟨⟨ps, hP, k4, tq⟩, q⟩
  obtain ⟨aN, fv, cM, ee⟩ := eV (scope := scope) (env := X.env) fun n hn => I.ok.has n (lZ n hn)
  have sj : s.heap.get? P = some (PySem.W.tabObj ps) := I.hok P _ hP
  obtain ⟨bm, ob, bmod⟩ := ej
  have fS := bmod.keeps I.bk
  have Nw : mainGlobals ≠ P := fun z => by
    obtain ⟨o, es, ep, e, hd, _⟩ := fS.ns
    rw [z, sj] at e; cases e; cases hd
  have Nx : bm ≠ P := fun z => by
    have e := fS.obj
    have e2 := fS.data
    rw [z, sj] at e; cases e; cases e2
  have Ny : bm ≠ mainGlobals := fun z => by
    obtain ⟨o, es, ep, e, hd, _⟩ := fS.ns
    have e1 := fS.obj
    have e2 := fS.data
    rw [z, e] at e1; cases e1; rw [hd] at e2; cases e2
  have hb : s.heap.BuiltinsAt X.mg P := ⟨bm, ob, fS.name, fS.ne, Ny, Nx, fS.obj, fS.cls, fS.dict, fS.data⟩
  refine PySem.W.kla_eval Bt ?_
  cases hq : codeAmong pos ps.toList with
  | some cv =>
    obtain ⟨c, oc, uc, vs, t, rfl, ec, d1, d2⟩ := tq pos cv hq
    refine PySem.W.kla_makeFunctionHit (mg := X.mg) fv I.ok.glob (I.mod.glob.keeps I.bk) fw (hd.keeps I.bk) sj k4 hq hb fun iu h' tk hk hsz => ?_
    have hf : H h'.objs.size = none := I.hok.fresh hsz
    have pre : ∀ b u, H b = some u → upd H h'.objs.size (jf h'.objs.size (PySem.W.kla_obj "<lambda>" (fK X) params body scope aN ((X.mg "__name__").getD .none) c iu)) b = some u := fun b u e => by rw [ae (aU e hf)]; exact e
    refine ⟨.ref h'.objs.size, _, wM I hk hsz (o := PySem.W.kla_obj "<lambda>" (fK X) params body scope aN ((X.mg "__name__").getD .none) c iu) rfl tk, rfl, q _ _ c oc aN _ ⟨cM, ee, ⟨iu, rfl⟩, ⟨vs, t, d1, d2⟩⟩ ⟨hf, ⟨_, ay⟩, ⟨uc, pre _ _ ec⟩, Lm.keep ⟨ps, hP, k4, tq⟩ (fun _ e => pre _ _ e) fun _ _ _ e => pre _ _ e, fun b u e _ => pre b u e, ⟨ps, hP⟩⟩⟩
  | none =>
    refine PySem.W.kla_makeFunction (mg := X.mg) fv I.ok.glob (I.mod.glob.keeps I.bk) fw (hd.keeps I.bk) sj k4 hq Nw hb fun c iu h' tk hx oP aT LW CB => ?_
    obtain ⟨c2, oc, vs, t, e2, p0, d1, d2⟩ := LW
    cases e2
    have I2 := wN (o := PySem.W.kla_obj "<lambda>" (fK X) params body scope aN ((X.mg "__name__").getD .none) c iu) I hP hx oP aT p0 CB rfl tk
    have hsz : s.heap.objs.size ≤ h'.objs.size := Nat.le_of_lt (Nat.lt_of_le_of_lt oP aT)
    have hf : H h'.objs.size = none := I.hok.fresh hsz
    have tK : H c = none := I.hok.fresh oP
    have Nz : c ≠ h'.objs.size := Nat.ne_of_lt aT
    have NA : P ≠ c := fun z => by rw [z, tK] at hP; cases hP
    have NB : P ≠ h'.objs.size := fun z => by rw [z, hf] at hP; cases hP
    have NC : TriplesOk (ps ++ #[rawInt pos.line, rawInt pos.col, Value.ref c]).toList := by
      rw [Array.toList_append]
      exact TriplesOk_snoc _ _ _ _ k4
    have pre : ∀ b u, H b = some u → b ≠ P → upd (upd (upd H P (.lam (ps ++ #[rawInt pos.line, rawInt pos.col, Value.ref c]))) c (jf c oc)) h'.objs.size (jf h'.objs.size (PySem.W.kla_obj "<lambda>" (fK X) params body scope aN ((X.mg "__name__").getD .none) c iu)) b = some u := fun b u e n => by
      rw [ae (aU e hf), ae (aU e tK), ae n]; exact e
    have Kt : upd (upd (upd H P (.lam (ps ++ #[rawInt pos.line, rawInt pos.col, Value.ref c]))) c (jf c oc)) h'.objs.size (jf h'.objs.size (PySem.W.kla_obj "<lambda>" (fK X) params body scope aN ((X.mg "__name__").getD .none) c iu)) c = some (jf c oc) := by rw [ae Nz, ay]
    refine ⟨.ref h'.objs.size, _, I2, rfl, q _ _ c oc aN _ ⟨cM, ee, ⟨iu, rfl⟩, ⟨vs, t, d1, d2⟩⟩ ⟨hf, ⟨_, ay⟩, ⟨_, Kt⟩, ⟨_, by rw [ae NB, ae NA, ay], NC, fun p cv e => ?_⟩, pre, ⟨ps, hP⟩⟩⟩
    rw [Array.toList_append] at e
    rcases zu _ k4 e with e | e
    · obtain ⟨c3, ND, u3, NF, t3, a1, a2, a3⟩ := tq p cv e
      exact ⟨c3, ND, u3, NF, t3, a1, pre _ _ a2 (fun z => by rw [z, hP] at a2; cases a2), a3⟩
    · exact ⟨c, oc, _, vs, t, e, Kt, d1, d2⟩
end
structure CC (X : Cx) (σ : St) (b' : Heap) : Prop where
  ext : ∀ b o, X.base.get? b = some o → b'.get? b = some o
  cell : ∀ (i : Nat) (x : Str) (v : V), X.N[i]? = some x → σ[i]? = some (some v) → X.env.scope.names.lookup x = some .cell → ∃ c u, X.env.cells.lookup x = some c ∧ RelV v u ∧ b'.IsCell c (some u)
  cells : ∀ x c, X.env.cells.lookup x = some c → ∃ v, b'.IsCell c v
  inj : ∀ x y c, X.env.cells.lookup x = some c → X.env.cells.lookup y = some c → x = y
theorem Mod.ext {K : PySem.W.Frag} {mg : Str → Option Value} {b b' : Heap} (m : Mod K mg b) (k : ∀ a o, b.get? a = some o → b'.get? a = some o) : Mod K mg b' :=
  ⟨m.kin.keeps k, m.glob.keeps k, let ⟨mb, h1, h2⟩ := m.blt; ⟨mb, h1.keeps k, h2⟩, m.nolimit.keeps k⟩
section
variable {X : Cx} {pins : List (Addr × Obj)} {σ : St} {H : Hp} {s : Shared}
theorem Inv.Jk (I : Inv X pins σ H s) (nO : ∀ x, X.fn x = true) : ∃ b', CC X σ b' ∧ ph X.prog X.w X.K X.mg b' X.A X.stack s H := by
  let CD : Addr → Prop := fun a => ∃ x, X.env.cells.lookup x = some a
  let l : List Addr := (List.range s.heap.objs.size).filter fun a => @decide ((X.base.get? a = none) ∧ ¬ CD a) (Classical.propDecidable _)
  have ml : ∀ a, a ∈ l ↔ a < s.heap.objs.size ∧ X.base.get? a = none ∧ ¬ CD a := fun a => by
    show a ∈ (List.range s.heap.objs.size).filter _ ↔ _
    rw [List.mem_filter, List.mem_range]
    simp only [decide_eq_true_eq]
  have ext : ∀ b o, X.base.get? b = some o → (PySem.W.hideAll s.heap l).get? b = some o := fun b o e => PySem.W.hideAll_get l (I.bk b o e) fun z => by
    have := ((ml b).mp z).2.1
    rw [e] at this; cases this
  have cls : ∀ x c o, X.env.cells.lookup x = some c → s.heap.get? c = some o → (PySem.W.hideAll s.heap l).get? c = some o := fun x c o e ho => PySem.W.hideAll_get l ho fun z => ((ml c).mp z).2.2 ⟨x, e⟩
  have only : ∀ b o, (PySem.W.hideAll s.heap l).get? b = some o → s.heap.get? b = some o ∧ ((∃ o', X.base.get? b = some o') ∨ CD b) := fun b o e => by
    have e' := PySem.W.of_hideAll l e
    refine ⟨e', ?_⟩
    by_cases hc : CD b
    · exact .inr hc
    · cases q : X.base.get? b with
      | some o' => exact .inl ⟨o', rfl⟩
      | none =>
        have : (PySem.W.hideAll s.heap l).get? b = none := PySem.W.hideAll_none l ((ml b).mpr ⟨Heap.lt_size e', q, hc⟩)
        rw [e] at this; cases this
  refine ⟨PySem.W.hideAll s.heap l, ⟨ext, fun i x v h1 h2 h3 => ?_, fun x c e => ?_, I.ok.inj⟩, I.ok.frames, I.ok.mod.ext ext, fun b o e => ?_, Nat.le_of_eq (PySem.W.hideAll_size _ _), ?_, I.jM, I.hok, I.bare.1⟩
  · obtain ⟨m, hn, hl⟩ := I.loc
    obtain ⟨u, r, lk⟩ := hl i x v h1 h2 (.inr (.inl h3))
    rcases lk with ⟨hk, _⟩ | ⟨_, c, ec, o, ho, hd⟩
    · have hk : X.env.scope.names.lookup x = some .local := hk
      rw [h3] at hk; cases hk
    · exact ⟨c, u, ec, r, o, cls x c o ec ho, hd⟩
  · obtain ⟨v, o, ho, hd⟩ := I.cell x c e
    exact ⟨v, o, cls x c o e ho, hd⟩
  · obtain ⟨e', q⟩ := only b o e
    refine ⟨e', ?_⟩
    rcases q with ⟨o', q⟩ | ⟨x, q⟩
    · exact (I.bs b o' q).2
    · exact I.freeC x b q
  · have fr : ∀ L ∈ dN X.stack, (PySem.W.hideAll s.heap l).get? L = none := fun L hL => by
      cases q : (PySem.W.hideAll s.heap l).get? L with
      | none => rfl
      | some o =>
        exfalso
        obtain ⟨e', q⟩ := only L o q
        have nb := (I.stack.mem hL).1
        rcases q with ⟨o', q⟩ | ⟨x, q⟩
        · rw [nb] at q; cases q
        · rcases List.mem_cons.mp (I.eB L hL) with z | z
          · exact I.pZ x L q z
          · have h1 := I.ok.cab x L (nO x) q
            obtain ⟨_, o2, NI, _⟩ := I.ok.funs.mem z
            exact absurd (Heap.lt_size NI) (Nat.not_lt.mpr h1)
    have go : ∀ (st : List Env), (∀ L ∈ dN st, (PySem.W.hideAll s.heap l).get? L = none) → s.heap.FunFrames X.base st → s.heap.FunFrames (PySem.W.hideAll s.heap l) st := by
      intro st
      induction st with
      | nil => intro _ _; trivial
      | cons env r ih =>
        intro hs hl
        obtain ⟨hk, ⟨L, o, hf, hn, ho, hd⟩, hr⟩ := hl
        exact ⟨hk, ⟨L, o, hf, hs L (by unfold dN; rw [List.filterMap_cons, hf]; exact List.mem_cons_self), ho, hd⟩, ih (fun b hb => hs b (by unfold dN; rw [List.filterMap_cons, hf]; exact List.mem_cons_of_mem _ hb)) hr⟩
    exact go X.stack fr I.stack
end
section
variable {X : Cx} {CX : f9} {k : Nat} {f : Addr} {fd : FuncData} {ps : List Str} {ft : List V} {ds : List Value} {E : XK} {x : Str} {p pos : Pos} {e : Expr} {es : List Expr} {t : TA}
noncomputable def Hd (X : Cx) (sp : Heap → Sp) (ft : List V) (E : XK) (t : TA) : TE := fun σ H Q => t σ H fun vs H1 => ∀ b', CC X σ b' → sp b' (vs ++ ft) H1 Q E
theorem Bu {sp : Heap → Sp} (F : ∀ b', (∀ b o, X.base.get? b = some o → b'.get? b = some o) → FnOk X.prog X.w X.K X.mg b' CX k f fd ps (sp b')) (hr : bE k X.A) (nO : ∀ x, X.fn x = true) (hg : Gl X x) (hm : X.mg x = some (.ref f)) (hk : PySem.W.keepIn X.K (.ref f) = true) (hb : Binds X.K fd ps ds) (hd : Vals ft ds) (hx : Passes CX X E)
    (ha : PA X (e :: es) t) (eC : (x == ("__debug__" : Str)) = false := by decide) (he : starEach (e :: es) X.env = (false, eval e X.env) :: starEach es X.env := by rfl) (bQ : (backTo pos (starEach es X.env)).any (·.1) = false := by rfl) :
    PE X (.Call (.Name x p) (e :: es) [] pos) (Hd X sp ft E t) := by
  refine ⟨?_⟩
  intro pins s σ H Q I h
  refine wpAny_Call_Name_kw (l0 I hg hm ?_ eC)
  refine PySem.W.callWith_K (h₀ := X.base) I.ok.mod.kin hk (thn (ha pos pins s σ H _ I h) fun us s1 ⟨vs, H1, I1, r, q⟩ => ⟨I1.fY, ?_⟩) he bQ
  obtain ⟨b', B, e0⟩ := I1.Jk nO
  have r2 : Vals (vs ++ ft) (us ++ ds) := r.append hd
  have hl : (us ++ ds).length = ps.length := by rw [← r2.length]; exact (F b' B.ext).len _ _ _ _ (q b' B)
  refine wpAny_call (codeAny_mono ((F b' B.ext).run X.A X.stack s1 H1 ⟨us, []⟩ (us ++ ds) (vs ++ ft) Q E hr e0 (hb s1 us I1.fY hl) r2 (q b' B)) fun r s' hq => ?_)
  cases r with
  | error e => exact hx pins σ H1 s1 e s' I1 hq
  | ok fl =>
    cases fl with
    | ret u => exact I1.after hq
    | next => exact False.elim hq
    | brk => exact False.elim hq
    | cont => exact False.elim hq
noncomputable def He (f : Addr) (o : Obj) (sp : Sp) (E : XK) (i : Nat) (t : TA) : TE := fun σ H Q => σ[i]? = some (some (.ref f)) ∧ (∃ u, H f = some (.bA o u)) ∧ t σ H fun vs H1 => (∃ u, H1 f = some (.bA o u)) ∧ sp vs H1 Q E
theorem Bv {o : Obj} {sp : Sp} {i : Nat} (F : FnOk X.prog X.w X.K X.mg X.base CX k f fd ps sp) (ho : ∃ oc od fd sl, o = ⟨oc, od, .func fd, sl⟩) (hr : bE k X.A) (hN : X.N[i]? = some x) (hv : mH X.env.scope x) (hb : Binds X.K fd ps []) (hx : Passes CX X E) (ha : PA X (e :: es) t)
    (eC : (x == ("__debug__" : Str)) = false := by decide) (dA : (x == ("__classdict__" : Str)) = false := by decide) (he : starEach (e :: es) X.env = (false, eval e X.env) :: starEach es X.env := by rfl) (bQ : (backTo pos (starEach es X.env)).any (·.1) = false := by rfl) :
    PE X (.Call (.Name x p) (e :: es) [] pos) (He f o sp E i t) := by
  refine ⟨?_⟩
  intro pins s σ H Q I ⟨hi, hf, h⟩
  obtain ⟨oc, od, Cg, sl, rfl⟩ := ho
  refine wpAny_Call_Name_kw (thn ((rS hN hv eC dA) pins s σ H (fun v H' => v = .ref f ∧ H' = H) I ⟨_, hi, rfl, rfl⟩) fun u s0 ⟨v, H0, I0, r0, e1, e2⟩ => ?_)
  subst e1 e2
  cases (show u = Value.ref f from r0)
  have at_ : ∀ {H' : Hp} {s' : Shared}, Inv X pins σ H' s' → (∃ u, H' f = some (.bA ⟨oc, od, .func Cg, sl⟩ u)) → PySem.W.FnAt f s'.heap := fun I' ⟨u, hu⟩ => ⟨oc, od, Cg, sl, (I'.hok f _ hu).1⟩
  refine PySem.W.callWith_F (at_ I0 hf) (thn (ha pos pins s0 σ H0 _ I0 h) fun us s1 ⟨vs, H1, I1, r, NK, q⟩ => ⟨at_ I1 NK, ?_⟩) he bQ
  have q' : sp (vs ++ []) H1 Q E := by rw [List.append_nil]; exact q
  exact yb F hr hb .nil hx I1 r q'
end
noncomputable def wO (CX : f9) (P : Program) (w : World) (K : PySem.W.Frag) (mg : Str → Option Value) (base : Heap) (N : List Str) (qual : Str) (scope : Scope) (f : Addr) (cd : Value) (aN : List (Str × Addr)) (A : Around) (outer : List Env) (s : Shared) (H : Hp) (E : XK) : Cx where
  prog := P
  w := w
  K := K
  mg := mg
  base := base
  A := A.deeper (PySem.W.envX qual scope s.heap.objs.size f cd aN)
  N := N
  s₀ := s
  H₀ := H
  env := PySem.W.envX qual scope s.heap.objs.size f cd aN
  outer := outer
  stack := PySem.W.envX qual scope s.heap.objs.size f cd aN :: outer
  ex := []
  calm := true
  fn := fun _ => false
  pn := []
  xe := fun e s' => wpAny (model P w) (A.deeper (PySem.W.envX qual scope s.heap.objs.size f cd aN)) (leaving (PySem.W.envX qual scope s.heap.objs.size f cd aN) e) (fun _ bX => CX outer H s E e bX) (fun e' bX => CX outer H s E e' bX) s'
structure kq (ps fs : List Str) (sc : Scope) : Prop where
  kind : sc.kind = .function
  co : sc.isCoroutine = false
  gen : sc.isGenerator = false
  nd : (ps ++ fs).Nodup
  par : ∀ x ∈ ps, sc.names.lookup x = some .local
  fre : ∀ x ∈ fs, sc.names.lookup x = some .free
  nocell : ∀ y ∈ sc.names, y.2 ≠ .cell
structure pN (base : Heap) (fs : List Str) (aN : List (Str × Addr)) (vcs : List V) : Prop where
  inj : ∀ x y c, aN.lookup x = some c → aN.lookup y = some c → x = y
  all : ∀ x c, aN.lookup x = some c → ∃ v, base.IsCell c v
  cell : ∀ (j : Nat) (x : Str) (v : V), fs[j]? = some x → vcs[j]? = some v → ∃ c u, aN.lookup x = some c ∧ RelV v u ∧ base.IsCell c (some u)
theorem oQ {x : Str} {v : Value} : ∀ {ps : List Str} {us : List Value} {i : Nat}, ps.Nodup → ps[i]? = some x → us[i]? = some v → (ps.zip us).reverse.lookup x = some v
  | [], _, _, _, h, _ => by simp at h
  | _ :: _, [], _, _, _, h => by simp at h
  | p :: ps, u :: us, i, nd, h1, h2 => by
    rw [List.zip_cons_cons, List.reverse_cons]
    have hn := List.nodup_cons.mp nd
    cases i with
    | zero =>
      simp at h1 h2
      subst h1 h2
      rw [List.lookup_append]
      have : (ps.zip us).reverse.lookup p = none := by
        rw [List.lookup_eq_none_iff]
        intro q hq
        have yP := List.mem_reverse.mp hq
        have := (List.of_mem_zip yP).1
        have ne : p ≠ q.1 := fun z => hn.1 (by rw [z]; exact this)
        simpa using ne
      rw [this]
      simp [List.lookup]
    | succ i =>
      rw [List.lookup_append, oQ hn.2 (by simpa using h1) (by simpa using h2)]
      rfl
section
variable {CX : f9} {P : Program} {w : World} {K : PySem.W.Frag} {mg : Str → Option Value} {base : Heap} {ps fs : List Str} {qual : Str} {scope : Scope} {f c : Addr} {aN : List (Str × Addr)} {A : Around} {outer : List Env} {s : Shared} {H : Hp} {E : XK} {us : List Value} {vs vcs : List V}
theorem D5 {h1 : Heap} {tk : Nat} (S : kq ps fs scope) (C : pN base fs aN vcs) (has : ∀ n, (n, NameKind.free) ∈ scope.names → ∃ a, aN.lookup n = some a) (hd : A.handled = none) (e0 : ph P w K mg base A outer s H) (hl : vs.length = ps.length) (hc : vcs.length = fs.length) (r : Vals vs us)
    (fR : h1.Ns s.heap.objs.size (fun y => (ps.zip us).reverse.lookup y)) (hk : ∀ b o, s.heap.get? b = some o → h1.get? b = some o) :
    Inv (wO CX P w K mg base (ps ++ fs) qual scope f (.ref c) aN A outer s H E) [] (vs.map some ++ vcs.map some) H { s with heap := h1, toks := tk } := by
  have bc : ∀ x a, aN.lookup x = some a → ∃ v o, s.heap.get? a = some o ∧ o.data = .cell v ∧ H a = none := fun x a e => by
    obtain ⟨v, o, ho, hd⟩ := C.all x a e
    obtain ⟨h1, h2⟩ := e0.bs a o ho
    exact ⟨v, o, h1, hd, h2⟩
  refine ⟨⟨e0.mod, S.kind, rfl, rfl, Nat.le_refl _, C.inj, fun y hy => ?_, fun _ _ z => (nomatch z), fun _ => hd, Around.frames_deeper e0.frames, .inr ⟨rfl, rfl⟩, fun b z => absurd (show b ∈ ([] : List Addr) from z) (by simp), e0.bs, e0.bsz, fun b _ _ z => absurd (show b ∈ ([] : List Addr) from z) (by simp), fun b z => absurd (show b ∈ ([] : List Addr) from z) (by simp), e0.funs, e0.frf⟩,
    rfl, ⟨e0.bare, Nat.le_refl _⟩, Un.kept hk, ⟨_, fR, fun i y v h1 h2 h3 => ?_⟩, fun y a e => ?_, e0.hok.fresh (Nat.le_refl _), fun y a e => ?_, fun p hp => absurd (show p ∈ ([] : List (Addr × Obj)) from hp) (by simp), e0.hok.kept hk, ?_⟩
  · have hy : scope.names.lookup y = some .cell ∨ scope.names.lookup y = some .free := hy
    rcases hy with hy | hy
    · exact absurd rfl (S.nocell _ (PySem.mem_of_lookup hy))
    · exact has y (PySem.mem_of_lookup hy)
  · have h1 : (ps ++ fs)[i]? = some y := h1
    by_cases hi : i < ps.length
    · rw [List.getElem?_append_left hi] at h1
      rw [List.getElem?_append_left (by simpa [hl] using hi), List.getElem?_map] at h2
      have ha : vs[i]? = some v := by
        cases e : vs[i]? with
        | none => rw [e] at h2; cases h2
        | some a => rw [e] at h2; cases h2; rfl
      obtain ⟨u, hu, rv⟩ := r.get ha
      have nd : ps.Nodup := S.nd.sublist (List.sublist_append_left _ _)
      exact ⟨u, rv, .inl ⟨S.par y (List.mem_of_getElem? h1), oQ nd h1 hu⟩⟩
    · rw [List.getElem?_append_right (by omega)] at h1
      rw [List.getElem?_append_right (by simp only [List.length_map]; omega), List.length_map, hl, List.getElem?_map] at h2
      have ha : vcs[i - ps.length]? = some v := by
        cases e : vcs[i - ps.length]? with
        | none => rw [e] at h2; cases h2
        | some a => rw [e] at h2; cases h2; rfl
      obtain ⟨a, u, e1, rv, o, ho, hd⟩ := C.cell _ y v h1 ha
      exact ⟨u, rv, .inr ⟨.inr (S.fre y (List.mem_of_getElem? h1)), a, e1, o, hk _ _ (e0.bs a o ho).1, hd⟩⟩
  · obtain ⟨v, o, ho, hd, _⟩ := bc y a e
    exact ⟨v, o, hk _ _ ho, hd⟩
  · obtain ⟨v, o, ho, hd, hn⟩ := bc y a e
    exact hn
  · show _ = (ps ++ fs).length
    simp [hl, hc]
structure wQ (params : Arguments) (body : Expr) (scope : Scope) (qual : Str) (o : Obj) (c : Addr) (oc : Obj) (aN : List (Str × Addr)) (fd : FuncData) : Prop where
  has : ∀ n, (n, NameKind.free) ∈ scope.names → ∃ a, aN.lookup n = some a
  obj : ∃ name pm iu, fd = PySem.W.kla_fn name qual params body scope aN pm (.ref c) iu ∧ o = { cls := .type "function", data := .func fd }
  code : ∃ vs t, oc.data = .fields vs ∧ vs[1]? = some (Value.str qual t)
theorem Hf {params : Arguments} {body : Expr} {o oc : Obj} {fd : FuncData} {k : Nat} {sp : Sp} (L : wQ params body scope qual o c oc aN fd) (S : kq ps fs scope) (C : pN base fs aN vcs) (cP : vcs.length = fs.length) (len : ∀ vs H Q E, sp vs H Q E → vs.length = ps.length)
    (at' : ∀ vs H Q E, sp vs H Q E → (∃ u, H f = some (.bA o u)) ∧ ∃ u, H c = some (.bA oc u))
    (j7 : ∀ (A : Around) (outer : List Env) (s : Shared) (H : Hp) (vs : List V) (Q : VK) (E : XK), bE k (A.deeper (PySem.W.envX qual scope s.heap.objs.size f (.ref c) aN)) → sp vs H Q E →
      ∃ t, PE (wO CX P w K mg base (ps ++ fs) qual scope f (.ref c) aN A outer s H E) body t ∧ t (vs.map some ++ vcs.map some) H Q) : FnOk P w K mg base CX (k + 1) f fd ps sp := by
  obtain ⟨has, ⟨name, pm, iu, rfl, rfl⟩, ⟨NM, ct, d1, d2⟩⟩ := L
  refine ⟨len, fun A outer s H args us vs Q E hr e0 hb r ju => ?_⟩
  have hl := len _ _ _ _ ju
  obtain ⟨⟨u1, ef⟩, ⟨u2, ec⟩⟩ := at' _ _ _ _ ju
  have NN := (e0.hok f _ ef).1
  have p0 := (e0.hok c _ ec).1
  have lim : s.heap.NoLimit := e0.mod.nolimit.keeps fun b o e => (e0.bs b o e).1
  refine PySem.W.kla_callFunE hr.depth NN rfl S.co S.gen rfl ⟨c, oc, NM, ct, rfl, p0, d1, d2⟩ (hb _ _ _ _ ?_)
  refine wpAny_newFunctionEnv S.nocell (fun y hy => S.par y.1 (List.of_mem_zip hy).1) (fun h1 fR gf => ⟨lim.fresh _ gf, ?_⟩) S.kind
  have hk : ∀ b o, s.heap.get? b = some o → h1.get? b = some o := fun b o e => gf.extBut b o (Nat.ne_of_lt (Heap.lt_size e)) (Heap.get?_push_of_some _ e)
  obtain ⟨t, ht, hq⟩ := j7 A outer s H vs Q E (hr.deeper _) ju
  have I := D5 (CX := CX) (qual := qual) (f := f) (c := c) (E := E) (tk := s.toks + (ps.zip us).length) S C has hr.hd e0 hl cP r fR hk
  show codeAny _ _ (.expr body (PySem.W.envX qual scope s.heap.objs.size f (.ref c) aN)) _ _
  refine PySem.W.kla_codeExpr (wpAny_mono (ht [] _ _ H Q I hq) (fun u s' ⟨v, H', J, rv, q⟩ => ?_) fun e s' hs => hs)
  exact ⟨v, H', J.os, J.bare, J.base, J.hok, rv, q⟩
end
end L2
namespace L2
open PySem PySem.Spec PySem.W PyProof.Rows
structure CF (K : PySem.W.Frag) (mg : Str → Option Value) (x : Str) (st : Stmt) (ps : List Str) (ds : List Value) (f : Addr) (fd : FuncData) : Prop where
  ex : ∃ (oc : Value) (od : Option Addr) (dV kV doc pm : Value) (an : Option Addr) (cm ct : Value) (jt : Array (Option Value)),
    fd = PySem.W.fnOf x x (cE st) (bz st) (ai st) dV kV doc pm an cm ct ∧ K.lookup f = some ⟨oc, od, .func fd, jt⟩ ∧ PySem.W.codeIn K cm x = true
  kp : PySem.W.keepIn K (.ref f) = true
  bd : Binds K fd ps ds
  bd0 : Binds K fd ps []
  mg : mg x = some (.ref f)
section
variable {P : Program} {w : World} {K : PySem.W.Frag} {mg : Str → Option Value} {base : Heap} {tb : cG} {x : Str} {st : Stmt} {f : Addr} {fd : FuncData} {N ps : List Str} {ft : List Value} {k : Nat} {S : cJ}
theorem Jl (D : CF K mg x st ps ft f fd) (sc : aQ N ps (ai st)) (len : ∀ ds M Q E, S ds M Q E → ds.length = ps.length)
    (body : ∀ (A : Around) (outer : List Env) (s : Shared) (E : XK) (Γ : Gz) (ds : List Dv) (Q' : ZK) (E' : ZX), P = Γ.P → w = Γ.w → K = Γ.K → tb = Γ.tb → bE k (A.deeper (envOfC x (ai st) s.heap.objs.size f fd.code)) → S ds Γ.M0 Q' E' →
      ∃ p, kH Γ (fm bf P w K mg base N x (ai st) f fd.code A outer s Γ.H0 E).kO (bz st) p ∧ p (zEndsOf Γ.M0 Q') (zstart N ds) Γ.M0) : FnOk P w K mg base bf (k + 1) f fd ps (bj P w K tb S) := by
  obtain ⟨oc, od, dV, kV, doc, pm, an, cm, ct, jt, rfl, lk, dA⟩ := D.ex
  refine vQ lk dA sc (pJ len) fun A outer s H vs Q E hr h => ?_
  obtain ⟨β, ds, M, Q', E', eP, ew, eK, et, m, rs, hS, q, _⟩ := h
  obtain ⟨p, hp, hq⟩ := body A outer s E ⟨β, M, H⟩ ds Q' E' eP.symm ew.symm eK.symm et.symm hr hS
  refine ⟨_, hp.kO, β, zstart N ds, M, zEndsOf M Q', nC (Γ := ⟨β, M, H⟩) m rs, hq, ?_⟩
  have fin : ∀ d M' v H', Ex β M H M' H' → Rz β M' H' v d → jb M Q' d M' → Q v H' := fun d M' v H' x r h => my m q x r h
  exact ⟨fun bD M' aH H' x zr h => fin _ _ _ _ ⟨zr.ent, x.mz⟩ .aq h, fun d M' v H' x e r h => fin _ _ _ _ ⟨e, x.mz⟩ r h, fun _ _ _ _ _ _ h => h, fun _ _ _ _ _ _ h => h⟩
noncomputable def CG (P : Program) (w : World) (K : PySem.W.Frag) (tb : cG) (f : Addr) (o : Obj) (c : Addr) (oc : Obj) (vcs : List V) (S : List Dv → cJ) : Sp := fun vs H Q E => ∃ (β : Bz) (ds bR : List Dv) (M : Mh) (Q' : ZK) (E' : ZX), β.P = P ∧ β.w = w ∧ β.K = K ∧ β.tb = tb ∧ Mz β M H ∧ aD β M H vs ds ∧ Rz β M H (.ref f) (.bC f o c oc vcs bR) ∧ S bR ds M Q' E' ∧
  (∀ d M' v H', Ex β M H M' H' → Rz β M' H' v d → Q' d M' → Q v H') ∧ ∀ C M' H', Ex β M H M' H' → E' C M' → E (.ref C) none H'
theorem jC {β : Bz} {M : Mh} {H : Hp} {v : V} {f c : Addr} {o oc : Obj} {vs : List V} {ds : List Dv} (h : Rz β M H v (.bC f o c oc vs ds)) : v = .ref f ∧ (∃ u, H f = some (.bA o u)) ∧ (∃ u, H c = some (.bA oc u)) ∧ aD β M H vs ds := by
  cases h with
  | bC m e m2 e2 hl h => exact ⟨rfl, ⟨_, e⟩, ⟨_, e2⟩, hl, h⟩
theorem Hg {Γ : Gz} {vs vcs : List V} {ds bR : List Dv} (m : Mz Γ.toBz Γ.M0 Γ.H0) (rs : aD Γ.toBz Γ.M0 Γ.H0 vs ds) (rc : aD Γ.toBz Γ.M0 Γ.H0 vcs bR) : Zr Γ Γ.toBz Γ.M0 (ds.map some ++ bR.map some) (vs.map some ++ vcs.map some) Γ.H0 :=
  ⟨rfl, rfl, rfl, rfl, fun _ h => h, m.wf, .refl, m, by simp [rs.len, rc.len], fun i d e => by
    rw [← List.map_append, List.getElem?_map, Option.map_eq_some_iff] at e
    obtain ⟨d2, e, e2⟩ := e
    cases e2
    obtain ⟨v, hv, r⟩ := (rs.append rc).get e
    exact ⟨v, by rw [← List.map_append, List.getElem?_map, hv]; rfl, r⟩⟩
theorem LX {fs : List Str} {qual : Str} {scope : Scope} {params : Arguments} {body : Expr} {c : Addr} {o oc : Obj} {aN : List (Str × Addr)} {vcs : List V} {Sc : List Dv → cJ} (L : wQ params body scope qual o c oc aN fd) (sc : kq ps fs scope) (C : pN base fs aN vcs) (cP : vcs.length = fs.length)
    (len : ∀ bR ds M Q E, Sc bR ds M Q E → ds.length = ps.length)
    (hb : ∀ (A : Around) (outer : List Env) (s : Shared) (E : XK) (Γ : Gz) (bR ds : List Dv) (Q' : ZK) (E' : ZX), P = Γ.P → w = Γ.w → K = Γ.K → tb = Γ.tb → bE k (A.deeper (PySem.W.envX qual scope s.heap.objs.size f (.ref c) aN)) → Sc bR ds Γ.M0 Q' E' →
      ∃ p, QE Γ (wO bf P w K mg base (ps ++ fs) qual scope f (.ref c) aN A outer s Γ.H0 E).kO body p ∧ p (ds.map some ++ bR.map some) Γ.M0 (jb Γ.M0 Q')) : FnOk P w K mg base bf (k + 1) f fd ps (CG P w K tb f o c oc vcs Sc) := by
  refine Hf L sc C cP (fun vs H Q E hS => by obtain ⟨β, ds, bR, M, Q', E', _, _, _, _, m, rs, rc, s, _⟩ := hS; exact rs.len.trans (len _ _ _ _ _ s)) (fun vs H Q E hS => by obtain ⟨β, ds, bR, M, Q', E', _, _, _, _, m, rs, rc, s, _⟩ := hS; obtain ⟨_, h1, h2, _⟩ := jC rc; exact ⟨h1, h2⟩) fun A outer s H vs Q E hr h => ?_
  obtain ⟨β, ds, bR, M, Q', E', eP, ew, eK, et, m, rs, rc, hS, q, _⟩ := h
  obtain ⟨p, hp, hq⟩ := hb A outer s E ⟨β, M, H⟩ bR ds Q' E' eP.symm ew.symm eK.symm et.symm hr hS
  obtain ⟨_, _, _, CH⟩ := jC rc
  exact ⟨_, hp.kO, β, _, M, _, Hg (Γ := ⟨β, M, H⟩) m rs CH, hq, fun d M' v H' x r h => my m q x r h⟩
end
section
variable {X : Cx} {Γ : Gz} {β : Bz} {CX : f9} {k : Nat} {f : Addr} {fd : FuncData} {ps : List Str} {E : XK} {E' : ZX} {x : Str} {p pos : Pos} {e : Expr} {es : List Expr} {za : ez} {P : Program} {w : World} {tb : cG} {K : PySem.W.Frag}
noncomputable def zCallL (f : Addr) (o : Obj) (c : Addr) (oc : Obj) (vcs : List V) (S : List Dv → cJ) (E' : ZX) (i : Nat) (za : ez) : aK := fun ρ M Q => match ρ[i]? with
  | some (some (.bC f' o' c' Hh Hi bR)) => (f' = f ∧ o' = o ∧ c' = c ∧ Hh = oc ∧ Hi = vcs) ∧ za ρ M fun ds M1 => S bR ds M1 Q E'
  | _ => False
theorem Bw {c : Addr} {o oc : Obj} {vcs : List V} {S : List Dv → cJ} {i : Nat} (F : FnOk X.prog X.w X.K X.mg X.base CX k f fd ps (CG P w K tb f o c oc vcs S)) (ho : ∃ oc od fd sl, o = ⟨oc, od, .func fd, sl⟩) (hr : bE k X.A) (hN : X.N[i]? = some x) (hv : mH X.env.scope x) (hb : Binds X.K fd ps [])
    (hx : Passes CX X E) (hP : P = Γ.P) (hw : w = Γ.w) (hK : K = Γ.K) (ht : tb = Γ.tb) (hE : XR Γ E' E) (ha : QA Γ X (e :: es) za) (eC : (x == ("__debug__" : Str)) = false := by decide) (dA : (x == ("__classdict__" : Str)) = false := by decide)
    (he : starEach (e :: es) X.env = (false, eval e X.env) :: starEach es X.env := by rfl) (bQ : (backTo pos (starEach es X.env)).any (·.1) = false := by rfl) : QE Γ X (.Call (.Name x p) (e :: es) [] pos) (zCallL f o c oc vcs S E' i za) :=
  (Bv F ho hr hN hv hb hx ha eC dA he bQ).imp fun σ H Q ⟨β, ρ, M, Q', zr, h, q⟩ => by
    subst hP hw hK ht
    unfold zCallL at h
    split at h
    · rename_i f' o' c' Hh Hi bR hi
      obtain ⟨⟨rfl, rfl, rfl, rfl, rfl⟩, h⟩ := h
      obtain ⟨v, hv, r⟩ := zr.at' i _ hi
      obtain ⟨rfl, h1, _, _⟩ := jC r
      refine ⟨hv, h1, β, ρ, M, _, zr, h, fun ds M1 vs H1 x1 r1 h2 => ?_⟩
      have r' := r.ex x1
      obtain ⟨_, h3, _, _⟩ := jC r'
      exact ⟨h3, β, ds, bR, M1, Q', E', zr.eP, zr.ew, zr.eK, zr.et, x1.mz, r1, r', h2, fun d M2 v H2 x2 r2 h2 => q _ _ _ _ (x1.trans x2) r2 h2, fun C M2 H2 x2 h2 => hE C M2 H2 (oK zr.ent zr.sub zr.eP zr.ew zr.eK zr.et (x1.trans x2)) h2⟩
    · exact h.elim
end
theorem Ex.LY {X : Cx} {P : Addr} {β : Bz} {M : Mh} {H H2 : Hp} {f c : Addr} {o oc : Obj} (m : Mz β M H) (hp : ∀ q ∈ β.tb.l, q.1 = P → q.2 = fK X) (n : Ha X P H H2 f o c oc) : Ex β M H M H2 := by
  obtain ⟨new, at', cd, lm, keep, ⟨ps, hP⟩⟩ := n
  obtain ⟨ps2, NP, _⟩ := id lm
  have nP : ∀ b u, H b = some u → (∀ ps, u ≠ .lam ps) → b ≠ P := fun b u e q z => by rw [z, hP] at e; cases e; exact q _ rfl
  have ey : Ey M H M H2 := ⟨fun b u _ e => by
    by_cases hb : b = P
    · subst hb
      rw [hP] at e; cases e
      exact .inr ⟨_, .inr (.inl ⟨ps, ps2, rfl, rfl⟩), NP⟩
    · exact .inl (keep b u e hb), fun _ h => h, fun _ _ h _ => h⟩
  refine ⟨ey, fun a u e => ?_, fun q hq => ?_, fun a ha => ?_, m.apart, fun q hq => ?_⟩
  · have z := m.obj a u e
    have k : ∀ u, H a = some u → L2.nq u = true → H2 a = some u := fun u h hu => keep a u h (nP a u h (by intro ps z; subst z; cases hu))
    cases u with
    | lst ds => obtain ⟨vs, z, l, r⟩ := z; exact ⟨vs, k _ z rfl, l, fun i v d a b => (r i v d a b).ey ey⟩
    | dk ks ds => obtain ⟨vs, z, hk, l, r⟩ := z; exact ⟨vs, k _ z rfl, hk, l, fun i v d a b => (r i v d a b).ey ey⟩
    | dt ks ds => obtain ⟨vs, z, hk, l, r⟩ := z; exact ⟨vs, k _ z rfl, hk, l, fun i v d a b => (r i v d a b).ey ey⟩
    | cF => obtain ⟨c, n, z, r⟩ := z; exact ⟨c, n, k _ z rfl, r⟩
  · obtain ⟨ps, e, t⟩ := m.tabs q hq
    exact ⟨ps, keep _ _ e (nP _ _ e (by intro ps z; cases z)), t⟩
  · obtain ⟨u, e, n⟩ := m.hids a ha
    exact ⟨u, keep _ _ e (nP _ _ e (by intro ps z; subst z; cases n)), n⟩
  · by_cases hb : q.1 = P
    · have : q = (P, fK X) := Prod.ext hb (hp q hq hb)
      rw [this]; exact lm
    · exact (m.lams q hq).keep (fun _ e => keep _ _ e hb) fun c' _ _ e => keep _ _ e (nP _ _ e (by intro ps z; cases z))
section
variable {X : Cx} {Γ : Gz} {β : Bz} {CX : f9} {k : Nat} {f : Addr} {fd : FuncData} {ps : List Str} {E : XK} {E' : ZX} {x : Str} {p pos lH : Pos} {e1 e2 : Expr} {rest : List Expr} {z1 z2 : aK} {zr : ez} {P : Program} {w : World} {tb : cG} {K : PySem.W.Frag}
noncomputable def oR : List Nat → aA → Option (List Dv)
  | [], _ => some []
  | i :: is, ρ => match ρ[i]?, oR is ρ with | some (some d), some ds => some (d :: ds) | _, _ => none
theorem vm {Γ : Gz} {M : Mh} {ρ : aA} {σ : St} {H : Hp} (z : Zr Γ β M ρ σ H) : ∀ {idx : List Nat} {bR : List Dv}, oR idx ρ = some bR → ∃ vcs, aD β M H vcs bR ∧ vcs.length = idx.length ∧ ∀ (j i : Nat) (v : V), idx[j]? = some i → vcs[j]? = some v → σ[i]? = some (some v)
  | [], bR, h => by cases h; exact ⟨[], .nil, rfl, fun j i v h => by simp at h⟩
  | i :: is, bR, h => by
    unfold oR at h
    split at h
    · rename_i d ds h1 h2
      cases h
      obtain ⟨v, hv, r⟩ := z.at' i d h1
      obtain ⟨vcs, rs, l, q⟩ := vm z h2
      refine ⟨v :: vcs, .cons r rs, by simp [l], fun j i' u a b => ?_⟩
      cases j with
      | zero => simp at a b; subst a b; exact hv
      | succ j => exact q j i' u (by simpa using a) (by simpa using b)
    · cases h
noncomputable def tL (X : Cx) (params : Arguments) (body : Expr) (scope : Scope) (idx : List Nat) (fs : List Str) (S : Heap → cJ) (dd : List Dv) (E' : ZX) (z1 z2 : aK) (zr : ez) : aK := fun ρ M Q => z1 ρ M fun d1 M1 => z2 ρ M1 fun d2 M2 => match oR idx ρ with
  | some bR => ∀ f o c oc aN vcs, vcs.length = idx.length → G9 X params body scope o c oc aN → zr ρ M2 fun es M3 => ∀ b', (∀ b o, X.base.get? b = some o → b'.get? b = some o) → pN b' fs aN vcs → S b' (d1 :: d2 :: .bC f o c oc vcs bR :: es ++ dd) M3 Q E'
  | none => False
theorem wR {params : Arguments} {body : Expr} {scope : Scope} {idx : List Nat} {fs : List Str} {S : Heap → cJ} {ft : List V} {dd : List Dv} {ds : List Value} {PT cX : Addr} (fw : X.env.code = .ref cX) (dA : PySem.W.CodeHd X.base cX PT) (ej : ∃ bm ob, BMod X.base mainGlobals X.mg bm ob) (Bt : defaultsOf params X.env = ([], []))
    (lZ : ∀ n, (n, NameKind.free) ∈ scope.names → X.env.kindOf n = some .cell ∨ X.env.kindOf n = some .free) (NQ : ∀ (j : Nat) (n : Str), fs[j]? = some n → (n, NameKind.free) ∈ scope.names ∧ X.env.scope.names.lookup n = some .cell ∧ ∃ i, idx[j]? = some i ∧ X.N[i]? = some n)
    (qu : (PT, fK X) ∈ Γ.tb.l) (Hj : ∀ q ∈ Γ.tb.l, q.1 = PT → q.2 = fK X)
    (F : ∀ b', (∀ b o, X.base.get? b = some o → b'.get? b = some o) → FnOk X.prog X.w X.K X.mg b' CX k f fd ps (bj P w K tb (S b'))) (hr : bE k X.A) (nO : ∀ x, X.fn x = true) (hg : Gl X x) (hm : X.mg x = some (.ref f)) (hk : PySem.W.keepIn X.K (.ref f) = true) (hb : Binds X.K fd ps ds) (hd : Vals ft ds) (NR : ∀ β M H, aD β M H ft dd)
    (hx : Passes CX X E) (hP : P = Γ.P) (hw : w = Γ.w) (hK : K = Γ.K) (ht : tb = Γ.tb) (hE : XR Γ E' E) (h1 : QE Γ X e1 z1) (h2 : QE Γ X e2 z2) (h3 : QA Γ X rest zr) (eC : (x == ("__debug__" : Str)) = false := by decide)
    (s1 : starEach (e1 :: e2 :: .Lambda params body scope lH :: rest) X.env = (false, eval e1 X.env) :: starEach (e2 :: .Lambda params body scope lH :: rest) X.env := by rfl)
    (s2 : starEach (e2 :: .Lambda params body scope lH :: rest) X.env = (false, eval e2 X.env) :: starEach (.Lambda params body scope lH :: rest) X.env := by rfl)
    (s3 : starEach (.Lambda params body scope lH :: rest) X.env = (false, eval (.Lambda params body scope lH) X.env) :: starEach rest X.env := by rfl)
    (bQ : (backTo pos (starEach (e2 :: .Lambda params body scope lH :: rest) X.env)).any (·.1) = false := by rfl) :
    QE Γ X (.Call (.Name x p) (e1 :: e2 :: .Lambda params body scope lH :: rest) [] pos) (tL X params body scope idx fs S dd E' z1 z2 zr) :=
  (Bu F hr nO hg hm hk hb hd hx (md h1 (md h2 (md (Hc fw dA ej Bt lZ) h3 s3) s2) s1) eC s1 bQ).imp fun σ H Q ⟨β, ρ, M, Q', jg, h, q⟩ => by
    subst hP hw hK ht
    refine ⟨β, ρ, M, _, jg, h, fun d1 M1 v1 H1 x1 r1 h1 => ⟨β, ρ, M1, _, jg.step x1, h1, fun d2 M2 v2 H2 x2 r2 h2 => ?_⟩⟩
    have Cw := (jg.step x1).step x2
    have LZ : (PT, fK X) ∈ β.tb.l := by rw [jg.et]; exact qu
    have L0 : ∀ q ∈ β.tb.l, q.1 = PT → q.2 = fK X := by rw [jg.et]; exact Hj
    refine ⟨x2.mz.lams _ LZ, fun lf o c oc aN H3 hO hN => ?_⟩
    split at h2
    · rename_i bR Jm
      obtain ⟨vcs, CH, lcs, at'⟩ := vm Cw Jm
      have x3 := Ex.LY x2.mz L0 hN
      have GL := Cw.step x3
      refine ⟨β, ρ, M2, _, GL, h2 lf o c oc aN vcs lcs hO, fun es M4 ws H4 x4 r4 h4 => ?_⟩
      intro b' B
      obtain ⟨u1, a1⟩ := hN.at'
      obtain ⟨u2, a2⟩ := hN.cd
      have Ku := x3.mz
      have NS : Fz β M2 lf := x2.mz.fz hN.new
      have L1 : ∀ a o u, H3 a = some (.bA o u) → a ∉ β.hid := fun a o u e z => by
        obtain ⟨w, e', n⟩ := Ku.hids a z
        rw [e] at e'; cases e'; cases n
      have L3 : Rz β M2 H3 (.ref lf) (.bC lf o c oc vcs bR) := .bC NS a1 ⟨Ku.jT a2 rfl, L1 _ _ _ a2⟩ a2 CH.len fun i v d a b => (CH.at' i v d a b).ex x3
      have L4 : pN b' fs aN vcs := by
        refine ⟨fun n m a e e' => B.inj n m a (hO.cells n a e) (hO.cells m a e'), fun n a e => B.cells n a (hO.cells n a e), fun j n v hj hv => ?_⟩
        obtain ⟨fr, kc, i, hi, hn⟩ := NQ j n hj
        obtain ⟨a, u, e1, e2, e3⟩ := B.cell i n v hn (at' j i v hi hv) kc
        obtain ⟨a', e'⟩ := hO.has n fr
        have := (hO.cells n a' e').symm.trans e1
        cases this
        exact ⟨a, u, e', e2, e3⟩
      have kJ := x2.trans (x3.trans x4)
      have NT := x3.trans x4
      refine ⟨β, _, M4, Q', E', jg.eP, jg.ew, jg.eK, jg.et, x4.mz, ?_, h4 b' B.ext L4, fun d M5 v H5 x5 r5 h5 => q _ _ _ _ (x1.trans (kJ.trans x5)) r5 h5, fun C M5 H5 x5 h5 => hE C M5 H5 (oK jg.ent jg.sub jg.eP jg.ew jg.eK jg.et (x1.trans (kJ.trans x5))) h5⟩
      have rs : aD β M4 H4 (v1 :: v2 :: .ref lf :: ws ++ ft) (d1 :: d2 :: .bC lf o c oc vcs bR :: es ++ dd) := .cons (r1.ex kJ) (.cons (r2.ex NT) (.cons (L3.ex x4) (r4.append (NR _ _ _))))
      exact rs
    · exact h2.elim
end
end L2
namespace L2
open PySem PySem.Spec PyProof.Rows
theorem zx {P : Program} {w : World} {K : PySem.W.Frag} {mg mb : Str → Option Value} {CX : f9} {k : Nat} {fa a : Addr} {fd : FuncData} {x : Str} {sp : Sp} {az : Shared} {vs : List Value} {ns : List Int} {tabs lts : List Addr}
    (KX : K.In az.heap) (fR : az.heap.Ns mainGlobals mg) (hb : az.heap.Ns builtinsNs mb) (NU : ∀ x : Str, x ≠ "__name__" → mb x = bootBuiltins x) (Hk : az.heap.NoLimit) (hg : az.gens = #[])
    (ha : az.heap.get? a = some { cls := .type "list", data := .seq vs.toArray }) (hi : IntsAre vs ns) (hl : ns.length ≤ sizeLine) (hr : bE k callerA)
    (iW : ∀ p ∈ tabs ++ lts, az.heap.get? p = some (PySem.W.tabObj #[]) ∧ isCodeTable az.heap p) (L5 : ∀ p ∈ tabs, p ∉ lts) (zy : PySem.W.kb_classed K = true) (ej : ∃ bm ob, BMod az.heap mainGlobals mg bm ob)
    (F : ∀ base : Heap, K.In base → base.Ns mainGlobals mg → (∃ bm ob, BMod base mainGlobals mg bm ob) → (∀ c p, PySem.W.CodeHd az.heap c p → PySem.W.CodeHd base c p) → FnOk P w K mg base CX k fa fd [x] sp)
    (Jn : ∀ (s : Shared) (u : Value), BindsTo s fd ⟨[u], []⟩ [(x, u)])
    (ju : ∀ H : Hp, (∀ p ∈ tabs, Tb p H) → (∀ p ∈ lts, H p = some (.lam #[])) → bB K H a (ns.map V.int) → sp [.ref a] H (fun v H' => v = .bl true ∧ ∀ p ∈ lts, ∃ ps, H' p = some (.lam ps)) fun _ _ _ => False)
    (Hl : ∀ H e s', CX [] H az (fun _ _ _ => False) e s' → False) :
    codeAny (model P w) callerA (.call (.ref fa) ⟨[.ref a], []⟩) (fun r s' => r = .ok (.ret (.bool true)) ∧ OldK az.heap s'.heap ∧ s'.os = az.os ∧ AllBare s'.gens) az := by
  have rv := qj hi
  have L6 := hi.length
  have oi : a ∉ tabs ++ lts := fun z => by
    have e := (iW a z).1
    rw [ha] at e
    cases e
  have core : ∀ H : Hp, (∀ b u, H b = some u → (b = a ∧ ∃ o xs, u = .bA o (.lst xs)) ∨ (b ∈ tabs ++ lts ∧ (u = .cz #[] ∧ b ∈ tabs ∨ u = .lam #[] ∧ b ∈ lts))) → (∀ p ∈ tabs, H p = some (.cz #[])) → (∀ p ∈ lts, H p = some (.lam #[])) → bB K H a (ns.map V.int) → cc P w H az.heap → (H a ≠ none → K.lookup a = none) →
      codeAny (model P w) callerA (.call (.ref fa) ⟨[.ref a], []⟩) (fun r s' => r = .ok (.ret (.bool true)) ∧ OldK az.heap s'.heap ∧ s'.os = az.os ∧ AllBare s'.gens) az := by
    intro H hO NV NW hS hok hK
    have mC : ∀ {b : Addr} {o : Obj}, az.heap.get? b = some o → H b = none → (iQ az.heap H).get? b = some o := fun e n => Al e n
    have no : ∀ {b : Addr} {o : Obj}, az.heap.get? b = some o → (∀ n, o.data ≠ .seq vs.toArray n) → o ≠ PySem.W.tabObj #[] → H b = none := fun {b o} e d1 d2 => by
      cases q : H b with
      | none => rfl
      | some u =>
        rcases hO b u q with ⟨e', _⟩ | ⟨gD, _⟩
        · subst e'
          rw [ha] at e; cases e
          exact absurd rfl (d1 _)
        · rw [(iW b gD).1] at e
          exact absurd (Option.some.inj e).symm d2
    have NX : ∀ {b : Addr} {o : Obj} {es : Array DictEntry} {ep : Nat}, az.heap.get? b = some o → o.data = .dict es ep → H b = none := fun {b o es ep} e d => no e (fun n z => by rw [d] at z; cases z) fun z => by rw [z] at d; cases d
    have zz : ∀ {b : Addr} {m : Str → Option Value}, az.heap.Ns b m → (iQ az.heap H).Ns b m := fun {b m} hS => by obtain ⟨o, es, ep, e, d, r⟩ := hS; exact ⟨o, es, ep, mC e (NX e d), d, r⟩
    have Kv : K.In (iQ az.heap H) := fun b o e => mC (KX b o e) (by
      cases q : H b with
      | none => rfl
      | some u =>
        rcases hO b u q with ⟨e', _⟩ | ⟨gD, _⟩
        · subst e'
          rw [hK (by rw [q]; simp)] at e; cases e
        · have e1 := KX b o e
          have e2 := (iW b gD).1
          rw [e1] at e2
          have e3 : o = PySem.W.tabObj #[] := Option.some.inj e2
          have q2 := List.all_eq_true.mp zy (b, o) (PySem.W.kb_mem e)
          simp only [Bool.or_eq_true, decide_eq_true_eq, beq_iff_eq] at q2
          rcases q2 with (q2 | q2) | q2
          · rw [e3] at q2; exact absurd rfl q2
          · obtain ⟨mc, ⟨oc, es, ep, ho, hd, _⟩, _⟩ := Hk
            rw [← q2, e1] at ho
            cases ho
            rw [e3] at hd; cases hd
          · obtain ⟨oc, es, ep, ho, hd, _⟩ := id fR
            rw [← q2, e1] at ho
            cases ho
            rw [e3] at hd; cases hd)
    have hM : Mod K mg (iQ az.heap H) := ⟨Kv, zz fR, ⟨mb, zz hb, NU⟩, let ⟨mc, h1, h2⟩ := Hk; ⟨mc, zz h1, h2⟩⟩
    have hB : ∃ bm ob, BMod (iQ az.heap H) mainGlobals mg bm ob := by
      obtain ⟨bm, ob, B⟩ := ej
      exact ⟨bm, ob, zz B.ns, B.name, B.ne, mC B.obj (no B.obj (fun n z => by rw [B.data] at z; cases z) fun z => by have := B.data; rw [z] at this; cases this), B.cls, B.dict, B.data⟩
    have hC : ∀ c p, PySem.W.CodeHd az.heap c p → PySem.W.CodeHd (iQ az.heap H) c p := fun c p ⟨o, y1, file, tf, flags, tg, NY, text, tt, e1, e2, e3, r⟩ =>
      ⟨o, y1, file, tf, flags, tg, NY, text, tt, mC e1 (no e1 (fun n z => by rw [e3] at z; cases z) fun z => by rw [z] at e2; cases e2), e2, e3, r⟩
    have e0 : ph P w K mg (iQ az.heap H) callerA [] az H := ⟨rfl, hM, fun b o e => C3 e, Nat.le_of_eq (xI _ _), trivial, fun b hb => absurd (show b ∈ ([] : List Addr) from hb) (by simp), hok, .of_eq hg⟩
    refine codeAny_mono ((F _ Kv (zz fR) hB hC).run callerA [] az H ⟨[.ref a], []⟩ [.ref a] [.ref a] _ _ hr e0 (Jn az (.ref a)) (.cons rfl .nil) (ju H (fun p hp => ⟨#[], NV p hp, trivial⟩) NW hS)) fun r s' h => ?_
    cases r with
    | error e => exact (Hl H e s' h).elim
    | ok fl =>
      cases fl with
      | next => exact False.elim h
      | brk => exact False.elim h
      | cont => exact False.elim h
      | ret u =>
        obtain ⟨v, H', os, bare, un, By, r', q⟩ := h
        obtain ⟨q', qL⟩ := q
        subst q'
        obtain rfl : u = Value.bool true := r'
        have all : ∀ b o, az.heap.get? b = some o → asItWas az.heap s'.heap b o ∧ ∃ o', s'.heap.get? b = some o' := fun b o e => by
          cases q : H b with
          | none =>
            have := un.keep b o e q (by intro z; exact absurd (show b ∈ ([] : List Addr) from z) (by simp)) (by simp)
            exact ⟨.inl this, _, this⟩
          | some u =>
            rcases hO b u q with ⟨_, ob, xs, z⟩ | ⟨gD, z⟩
            · subst z
              have z2 := un.frzs b ob _ q
              obtain ⟨e1, _⟩ := hok b _ q
              obtain ⟨e2, _⟩ := By b _ z2
              rw [e] at e1; cases e1
              exact ⟨.inl e2, _, e2⟩
            · have e2 : ∃ more, s'.heap.get? b = some { cls := .none, data := .fields (#[] ++ more) } := by
                rcases z with ⟨z, _⟩ | ⟨z, uX⟩
                · subst z
                  obtain ⟨more, z2⟩ := un.tbls b #[] q
                  exact ⟨more, By b _ z2⟩
                · obtain ⟨ps, z2⟩ := qL b uX
                  refine ⟨ps, ?_⟩
                  have := By b _ z2
                  rw [show (#[] : Array Value) ++ ps = ps by simp]
                  exact this
              obtain ⟨more, e2⟩ := e2
              have e1 := (iW b gD).1
              rw [e] at e1
              obtain rfl : o = PySem.W.tabObj #[] := Option.some.inj e1
              exact ⟨.inr (.inl ⟨(iW b gD).2, rfl, #[], more, rfl, e2⟩), _, e2⟩
        exact ⟨rfl, ⟨fun b o e => (all b o e).1, fun b o e => (all b o e).2⟩, os, bare.1⟩
  have Hm : ∀ p ∈ tabs ++ lts, ∀ H : Hp, ∀ u, (u = .cz #[] ∧ p ∈ tabs ∨ u = .lam #[] ∧ p ∈ lts) → ObjOk P w H az.heap p u := fun p hp H u hu => by
    rcases hu with ⟨rfl, _⟩ | ⟨rfl, _⟩ <;> exact (iW p hp).1
  let T : Hp := fun b => if b ∈ lts then some (.lam #[]) else if b ∈ tabs then some (.cz #[]) else none
  have T1 : ∀ b u, T b = some u → b ∈ tabs ++ lts ∧ (u = .cz #[] ∧ b ∈ tabs ∨ u = .lam #[] ∧ b ∈ lts) := fun b u z => by
    by_cases h1 : b ∈ lts
    · have z' := (show T b = _ from if_pos h1).symm.trans z
      cases z'
      exact ⟨List.mem_append_right _ h1, .inr ⟨rfl, h1⟩⟩
    · by_cases h2 : b ∈ tabs
      · have z' := (show T b = _ from (if_neg h1).trans (if_pos h2)).symm.trans z
        cases z'
        exact ⟨List.mem_append_left _ h2, .inl ⟨rfl, h2⟩⟩
      · have z' := (show T b = _ from (if_neg h1).trans (if_neg h2)).symm.trans z
        cases z'
  have T2 : ∀ p ∈ tabs, T p = some (.cz #[]) := fun p hp => (if_neg (L5 p hp)).trans (if_pos hp)
  have T3 : ∀ p ∈ lts, T p = some (.lam #[]) := fun p hp => if_pos hp
  have Ta : T a = none := (if_neg fun z => oi (List.mem_append_right _ z)).trans (if_neg fun z => oi (List.mem_append_left _ z))
  cases hk : K.lookup a with
  | some o =>
    have e := KX a o hk
    rw [ha] at e
    cases e
    exact core T (fun b u z => .inr (T1 b u z)) T2 T3 (.inr ⟨_, vs.toArray, _, hk, rfl, rfl, rfl, by rw [List.size_toArray, L6]; exact hl, by simpa using rv⟩) (fun b u z => Hm b (T1 b u z).1 _ u (T1 b u z).2) fun z => absurd Ta z
  | none =>
    have na : ∀ p ∈ tabs ++ lts, p ≠ a := fun p hp z => oi (z ▸ hp)
    refine core (upd T a (.bA { cls := .type "list", data := .seq vs.toArray } (.lst (ns.map V.int)))) (fun b u z => ?_) (fun p hp => by rw [ae (na p (List.mem_append_left _ hp))]; exact T2 p hp) (fun p hp => by rw [ae (na p (List.mem_append_right _ hp))]; exact T3 p hp) (.inl (.inr ⟨_, ay⟩)) (fun b u z => ?_) fun _ => hk
    · by_cases hb : b = a
      · subst hb
        rw [ay] at z
        cases z
        exact .inl ⟨rfl, _, _, rfl⟩
      · rw [ae hb] at z
        exact .inr (T1 b u z)
    · by_cases hb : b = a
      · subst hb
        rw [ay] at z
        cases z
        exact ⟨ha, by rw [List.length_map]; exact hl, vs, _, rv, ha⟩
      · rw [ae hb] at z
        exact Hm b (T1 b u z).1 _ u (T1 b u z).2
noncomputable def rK (K : PySem.W.Frag) (x : Str) : Option Addr := match PySem.W.nsIn K mainGlobals x with
  | some (some (.ref f)) => (match K.lookup f with
    | some ⟨_, _, .func fd, _⟩ => (match fd.code with
      | .ref c => (match K.lookup c with
        | some ⟨_, _, .fields vs, _⟩ => (match vs[11]? with | some (Value.ref p) => some p | _ => none)
        | _ => none)
      | _ => none)
    | _ => none)
  | _ => none
noncomputable abbrev TabOf (mg : Str → Option Value) (h : Heap) (y : Str) (p : Addr) : Prop := ∃ f o fd c, mg y = some (.ref f) ∧ h.get? f = some o ∧ o.data = .func fd ∧ fd.code = .ref c ∧ PySem.W.CodeHd h c p
theorem tM {K : PySem.W.Frag} {mg : Str → Option Value} {h : Heap} {y : Str} {p q : Addr} (X : K.In h) (G : h.Ns mainGlobals mg) (t : TabOf mg h y p) (e : rK K y = some q) : p = q := by
  obtain ⟨f, o, fd, c, e1, e2, e3, e4, oc, vs, _, _, _, _, _, _, _, g1, _, g3, g4, _⟩ := t
  unfold rK at e
  split at e
  · rename_i f' fR
    have := (PySem.W.mg_of X G fR).symm.trans e1
    cases this
    split at e
    · rename_i Hh O7 Cg JL Hn
      have := (X _ _ Hn).symm.trans e2
      cases this
      cases e3
      rw [e4] at e
      dsimp only at e
      split at e
      · rename_i a1 a2 y1 a3 NZ
        have := (X _ _ NZ).symm.trans g1
        cases this
        cases g3
        rw [g4] at e
        cases e
        rfl
      · cases e
    · cases e
  · cases e
noncomputable def pO (K : PySem.W.Frag) (gs ls : List Str) : Bool := gs.all fun x => ls.all fun y => match rK K x, rK K y with | some p, some q => decide (p ≠ q) | _, _ => false
theorem vn {α β : Type} {F : α → β → Prop} {l : List α} {m : List β} (h : Paired F l m) {b : β} (hb : b ∈ m) : ∃ a ∈ l, F a b := by
  induction h with
  | nil => simp at hb
  | cons x t ih =>
    rcases List.mem_cons.mp hb with e | e
    · subst e; exact ⟨_, List.mem_cons_self, x⟩
    · obtain ⟨a, ha, q⟩ := ih e
      exact ⟨a, List.mem_cons_of_mem _ ha, q⟩
theorem BA {K : PySem.W.Frag} {mg : Str → Option Value} {h : Heap} {gs ls : List Str} {tabs lts : List Addr} (X : K.In h) (G : h.Ns mainGlobals mg) (d : pO K gs ls = true) (t1 : Paired (TabOf mg h) gs tabs) (t2 : Paired (TabOf mg h) ls lts) : ∀ p ∈ tabs, p ∉ lts := fun p hp hq => by
  obtain ⟨x, hx, tx⟩ := vn t1 hp
  obtain ⟨y, hy, ty⟩ := vn t2 hq
  have := List.all_eq_true.mp (List.all_eq_true.mp d x hx) y hy
  split at this
  · rename_i p' q' e1 e2
    have a := tM X G tx e1
    have b := tM X G ty e2
    exact (of_decide_eq_true this) (a.symm.trans b)
  · cases this
theorem BC {l : PySem.W.OpenLaw} {n k : Nat} {q : Program} {loose : List Str} {XP : (Str → Option Value) → Heap → Prop} {YP : World → Heap → Prop} {d : DefRec} {K : Params → PySem.W.Frag} {CX : f9} {sp : PySem.W.Frag → List Addr → List Addr → Sp} {x : Str} {nms zA : List Str}
    (hn : l.most = some n) (N0 : n ≤ sizeLine) (yj : d.params.defaults = []) (hr : bE k callerA) (zy : ∀ w : World, PySem.W.kb_classed (K w.params) = true)
    (CI : ∀ y ∈ nms ++ zA, ∃ r ∈ recsOf q, r.name = y) (mQ : ∀ w : World, pO (K w.params) nms zA = true)
    (hY : ∀ (w : World) (h : Heap), YP w h → (K w.params).In h)
    (F : ∀ (w : World) (mg : Str → Option Value) (fa : Addr) (h : Heap) (tabs lts : List Addr), (K w.params).In h → h.Ns mainGlobals mg → mg d.name = some (.ref fa) →
      Paired (TabOf mg h) nms tabs → Paired (TabOf mg h) zA lts →
      ∃ fd : FuncData, (∀ (s : Shared) (u : Value), BindsTo s fd ⟨[u], []⟩ [(x, u)]) ∧
        ∀ base : Heap, (K w.params).In base → base.Ns mainGlobals mg → (∃ bm ob, BMod base mainGlobals mg bm ob) → (∀ c p, PySem.W.CodeHd h c p → PySem.W.CodeHd base c p) → FnOk l.prog w (K w.params) mg base CX k fa fd [x] (sp (K w.params) tabs lts))
    (ju : ∀ (K : PySem.W.Frag) (tabs lts : List Addr) (H : Hp) (a : Addr) (ns : List Int), lts.length = zA.length → ns.length ≤ n → (∀ p ∈ tabs, Tb p H) → (∀ p ∈ lts, H p = some (.lam #[])) → bB K H a (ns.map V.int) → sp K tabs lts [.ref a] H (fun v H' => v = .bl true ∧ ∀ p ∈ lts, ∃ ps, H' p = some (.lam ps)) fun _ _ _ => False)
    (Hl : ∀ (H : Hp) (s : Shared) (e : Value) (s' : Shared), CX [] H s (fun _ _ _ => False) e s' → False) :
    PySem.W.WalkO q loose XP YP l.row.toRowW d [] (fun f vs => PySem.call f vs) := by
  refine JU.ui hn yj fun w s₀ az mg mb fa o pm cd doc a vs ns G Y ho hd dA yk AJ hints hlen hg => ?_
  have KX := hY w _ Y
  have tb : ∀ nms : List Str, (∀ y ∈ nms, ∃ r ∈ recsOf q, r.name = y) → ∃ tabs, Paired (TabOf mg az.heap) nms tabs ∧ ∀ p ∈ tabs, az.heap.get? p = some (PySem.W.tabObj #[]) ∧ isCodeTable az.heap p := by
    intro nms
    induction nms with
    | nil => intro _; exact ⟨[], .nil, fun p hp => absurd hp (by simp)⟩
    | cons y r ih =>
      intro hm
      obtain ⟨tabs, h1, h2⟩ := ih fun z hz => hm z (List.mem_cons_of_mem _ hz)
      obtain ⟨rr, N1, e⟩ := hm y List.mem_cons_self
      obtain ⟨f, o', fd, c, p, a1, a2, a3, a4, a5, a6⟩ := G.T.tab rr N1
      rw [e] at a1
      refine ⟨p :: tabs, .cons ⟨f, o', fd, c, a1, a2, a3, a4, .of a5 a6⟩ h1, fun z hz => ?_⟩
      rcases List.mem_cons.mp hz with rfl | hz
      · exact ⟨a6.2, a6.isCodeTable⟩
      · exact h2 z hz
  obtain ⟨tabs, t1, t2⟩ := tb nms fun y hy => CI y (List.mem_append_left _ hy)
  obtain ⟨lts, u1, u2⟩ := tb zA fun y hy => CI y (List.mem_append_right _ hy)
  obtain ⟨fd, hb, hF⟩ := F w mg fa _ tabs lts KX G.T.g yk t1 u1
  exact zx (lts := lts) KX G.T.g G.T.b G.T.builtins G.T.nolimit hg AJ hints (Nat.le_trans hlen N0) hr (fun p hp => (List.mem_append.mp hp).elim (t2 p) (u2 p)) (BA KX G.T.g (mQ w) t1 u1) (zy w) (PySem.W.bmod_of_top G.T) hF hb (fun H hO hL hS => ju _ tabs lts H a ns (Paired.length u1).symm hlen hO hL hS) fun H e s' => Hl H az e s'
noncomputable abbrev lJ (K : PySem.W.Frag) (x : Str) (st : Stmt) (dv : Value) : Prop :=
  ∃ (f : Addr) (oc : Value) (od : Option Addr) (sl : Array (Option Value)) (T : Addr) (oT : Obj) (nT : Nat) (kV dc pm : Value) (an : Option Addr) (cd ct : Value),
    PySem.W.nsIn K mainGlobals x = some (some (.ref f)) ∧ K.lookup f = some ⟨oc, od, .func (PySem.W.fnOf x x (cE st) (bz st) (ai st) (.ref T) kV dc pm an cd ct), sl⟩ ∧ PySem.W.codeIn K cd x = true ∧ PySem.W.keepIn K (.ref f) = true ∧ K.lookup T = some oT ∧ oT.data = .seq #[dv] nT
theorem zB {K : PySem.W.Frag} {x : Str} {st : Stmt} {dv : Value} {f : Addr} {oc : Value} {od : Option Addr} {sl : Array (Option Value)} {T : Addr} {oT : Obj} {nT : Nat} {kV dc pm : Value} {an : Option Addr} {cd ct : Value} (a : PySem.W.nsIn K mainGlobals x = some (some (.ref f)))
    (l : K.lookup f = some ⟨oc, od, .func (PySem.W.fnOf x x (cE st) (bz st) (ai st) (.ref T) kV dc pm an cd ct), sl⟩) (c : PySem.W.codeIn K cd x = true) (k : PySem.W.keepIn K (.ref f) = true) (t : K.lookup T = some oT) (u : oT.data = .seq #[dv] nT) : lJ K x st dv := ⟨f, oc, od, sl, T, oT, nT, kV, dc, pm, an, cd, ct, a, l, c, k, t, u⟩
theorem lJ.df {K : PySem.W.Frag} {mg : Str → Option Value} {h : Heap} {x : Str} {st : Stmt} {dv : Value} (d : lJ K x st dv) (X : K.In h) (G : h.Ns mainGlobals mg) (ps : List Str)
    (hb : ∀ (T : Addr) (kV doc pm : Value) (an : Option Addr) (cm ct : Value) (us : List Value), us.length + 1 = ps.length → ∃ k, bindArgs (PySem.W.fnOf x x (cE st) (bz st) (ai st) (.ref T) kV doc pm an cm ct) ⟨us, []⟩ = seqItems? (.ref T) >>= k ∧ k (some #[dv]) = pure (ps.zip (us ++ [dv])))
    (Ci : ∀ (T : Addr) (kV doc pm : Value) (an : Option Addr) (cm ct : Value) (us : List Value), us.length = ps.length → ∃ k, bindArgs (PySem.W.fnOf x x (cE st) (bz st) (ai st) (.ref T) kV doc pm an cm ct) ⟨us, []⟩ = seqItems? (.ref T) >>= k ∧ k (some #[dv]) = pure (ps.zip us)) :
    ∃ f fd, CF K mg x st ps [dv] f fd := by
  obtain ⟨f, oc, od, sl, T, oT, nT, kV, dc, pm, an, cd, ct, a, l, c, k, t, u⟩ := d
  refine ⟨f, _, ⟨oc, od, .ref T, kV, dc, pm, an, cd, ct, sl, rfl, l, c⟩, k, fun s us hK hl => ?_, fun s us hK hl => ?_, PySem.W.mg_of X G a⟩
  · obtain ⟨kk, h1, h2⟩ := hb T kV dc pm an cd ct us (by rw [List.length_append] at hl; exact hl)
    exact PySem.W.binds_K hK rfl t u h1 h2
  · rw [List.append_nil] at hl ⊢
    obtain ⟨kk, h1, h2⟩ := Ci T kV dc pm an cd ct us hl
    exact PySem.W.binds_K hK rfl t u h1 h2
theorem BD {K : PySem.W.Frag} {tabs lts : List Addr} {qs : List Str} {H : Hp} {a : Addr} {ns : List Int} (hl : lts.length = qs.length) (hn : ns.length ≤ 63) (hT : ∀ p ∈ tabs, Tb p H) (hL : ∀ p ∈ lts, H p = some (.lam #[])) (hS : bB K H a (ns.map V.int)) :
    spLaw K ⟨tabs, lts.zip qs⟩ [.ref a] H (fun v H' => v = .bl true ∧ ∀ p ∈ lts, ∃ ps, H' p = some (.lam ps)) fun _ _ _ => False :=
  ⟨a, ns, rfl, hS, hn, hT, fun p hp => ⟨#[], hL p.1 (List.of_mem_zip hp).1, trivial, fun pos cv e => nomatch e⟩, fun H' h => ⟨rfl, fun p hp => by
    obtain ⟨i, hi⟩ := List.mem_iff_getElem?.mp hp
    have h1 := (List.getElem?_eq_some_iff.mp hi).1
    exact h (p, qs[i]) (List.mem_of_getElem? (i := i) (List.getElem?_zip_eq_some.mpr ⟨hi, List.getElem?_eq_getElem (by omega)⟩))⟩⟩
theorem zD {K : PySem.W.Frag} {x : Str} {st : Stmt} {i : Int} {tk : Tok} {f : Addr} {oc : Value} {od : Option Addr} {sl : Array (Option Value)} {T : Addr} {oT : Obj} {nT : Nat} {kV dc pm : Value} {an : Option Addr} {cd ct : Value} (a : PySem.W.nsIn K mainGlobals x = some (some (.ref f)))
    (l : K.lookup f = some ⟨oc, od, .func (PySem.W.fnOf x x (cE st) (bz st) (ai st) (.ref T) kV dc pm an cd ct), sl⟩) (c : PySem.W.codeIn K cd x = true) (k : PySem.W.keepIn K (.ref f) = true) (t : K.lookup T = some oT) (u : oT.data = .seq #[.int i tk] nT) : ∃ tk, lJ K x st (.int i tk) := ⟨tk, zB a l c k t u⟩
structure g9 (h : Heap) (d : Addr) (es : Array DictEntry) (ep : Nat) : Prop where
  ex : ∃ o, h.get? d = some o ∧ o.cls = .type "dict" ∧ o.data = .dict es ep
noncomputable abbrev zE (d : Addr) (i n ep : Nat) : Obj := { cls := .type "dict_keyiterator", dict := none, data := .fields #[.ref d, .int i 0, .int n 0, .int ep 0], slots := #[] }
theorem oS (d : Addr) : ¬ ((Value.ref d == Value.none) = true) := fun z => nomatch (show false = true from z)
section
variable {prog : Program} {w : World} {A : Around} {E : Value → Shared → Prop} {s : Shared} {d it : Addr} {es : Array DictEntry} {ep i : Nat}
theorem Kw {Q : Option Value → Shared → Prop} (gi : s.heap.get? it = some (zE d i es.size ep)) (r : g9 s.heap d es ep) (hi : i < es.size)
    (q : ∀ h', h'.get? it = some (zE d (i + 1) es.size ep) → Heap.SameBut it s.heap h' → Q (some es[i].key) { s with heap := h' }) : wpAny (model prog w) A (pyNext (.ref it)) Q E s := by
  obtain ⟨o, g, c, dt⟩ := r
  have ty : s.TypeIs (.ref it) "dict_keyiterator" := ⟨_, gi, rfl⟩
  unfold pyNext
  refine wpAny_bind (wpAny_attempt (wpAny_callSpecial?_slot (name := Str.ofString "__next__") ty PySem.F.slot_dict_keyiterator_next (wpAny_call_entry PySem.F.slot_dict_keyiterator_next ty PySem.F.entry_dict_keyiterator_next ?_ (PySem.F.args_dict_keyiterator_next_1 _))))
  refine wpAny_bind (wpAny_pure (wpAny_bind (wpAny_bind ?_)))
  refine wpAny_bind (wpAny_typeNameOfWhole_keyiter ty (wpAny_pure (wpAny_bind (wpAny_fieldsOf gi rfl ?_))))
  simp only [show Builtin.Dict_items.ownsTuple "dict_keyiterator" = false by decide, Bool.false_eq_true, if_false]
  refine (show wpAny _ _ (if (Value.ref d == Value.none) = true then _ else _) _ _ s from ?_)
  rw [if_neg (oS d)]
  refine wpAny_bind (wpAny_pure (wpAny_bind (wpAny_dictEntries g dt ?_)))
  rw [if_neg (by simp)]
  refine wpAny_bind (wpAny_pure (wpAny_bind (wpAny_dictEpoch g dt ?_)))
  rw [if_neg (by simp)]
  refine wpAny_pure ?_
  simp only [show ¬ ((i : Int) < 0) by omega, if_false, Int.toNat_natCast, Array.getElem?_eq_getElem hi]
  refine wpAny_bind (wpAny_bind (wpAny_typeNameOfWhole_keyiter ty (wpAny_pure (wpAny_bind (wpAny_isOneOf_keyiter ty ?_)))))
  refine (show wpAny _ _ (setField (.ref it) 1 (rawInt ((i : Int) + 1)) >>= _) _ _ s from wpAny_bind (wpAny_setField_rec gi (by simp) fun h1 e1 b1 => ?_))
  have e1 : h1.get? it = some (zE d (i + 1) es.size ep) := by
    rw [e1]; simp [zE, rawInt]
  refine wpAny_bind (wpAny_holding (wpAny_bind (wpAny_isOneOf_keyiter (s := { s with heap := h1 }) ⟨_, e1, rfl⟩ ?_)))
  exact (show wpAny _ _ (pure es[i].key) _ _ _ from wpAny_pure (wpAny_pure ⟨_, rfl, wpAny_pure (q _ e1 b1)⟩))
theorem L7 {Q : Option Value → Shared → Prop} (hh : A.handled = none) (gi : s.heap.get? it = some (zE d i es.size ep)) (r : g9 s.heap d es ep) (hi : es.size ≤ i)
    (q : ∀ h', Heap.ExtBut it s.heap h' → Q none { s with heap := h' }) : wpAny (model prog w) A (pyNext (.ref it)) Q E s := by
  obtain ⟨o, g, c, dt⟩ := r
  have ty : s.TypeIs (.ref it) "dict_keyiterator" := ⟨_, gi, rfl⟩
  unfold pyNext
  refine wpAny_bind (wpAny_attempt (wpAny_callSpecial?_slot (name := Str.ofString "__next__") ty PySem.F.slot_dict_keyiterator_next (wpAny_call_entry PySem.F.slot_dict_keyiterator_next ty PySem.F.entry_dict_keyiterator_next ?_ (PySem.F.args_dict_keyiterator_next_1 _))))
  refine wpAny_bind (wpAny_pure (wpAny_bind (wpAny_bind ?_)))
  refine wpAny_bind (wpAny_typeNameOfWhole_keyiter ty (wpAny_pure (wpAny_bind (wpAny_fieldsOf gi rfl ?_))))
  simp only [show Builtin.Dict_items.ownsTuple "dict_keyiterator" = false by decide, Bool.false_eq_true, if_false]
  refine (show wpAny _ _ (if (Value.ref d == Value.none) = true then _ else _) _ _ s from ?_)
  rw [if_neg (oS d)]
  refine wpAny_bind (wpAny_pure (wpAny_bind (wpAny_dictEntries g dt ?_)))
  rw [if_neg (by simp)]
  refine wpAny_bind (wpAny_pure (wpAny_bind (wpAny_dictEpoch g dt ?_)))
  rw [if_neg (by simp)]
  refine wpAny_pure ?_
  simp only [show ¬ ((i : Int) < 0) by omega, if_false, Int.toNat_natCast, Array.getElem?_eq_none hi]
  refine wpAny_bind (wpAny_bind (wpAny_typeNameOfWhole_keyiter ty (wpAny_pure ?_)))
  refine (show wpAny _ _ (setField (.ref it) 0 .none >>= _) _ _ s from wpAny_bind (wpAny_setField_rec gi (by simp) fun h1 e1 b1 => ?_))
  refine (show wpAny _ _ (newExc (.type "StopIteration") [] >>= _) _ _ _ from wpAny_bind ?_)
  simp only [newExc, newTuple]
  refine wpAny_bind (wpAny_newObj_type (wpAny_bind (m := firstArgMember _ _) (wpAny_of_eq (a := Value.none) (by first | rfl | (simp only [firstArgMember]; rfl)) (wpAny_newObj_type ?_ (by size_fits)))) (by size_fits))
  simp only [raiseNew]
  refine wpAny_bind (wpAny_handled ?_)
  rw [show A.in1.handled = none from hh]
  refine wpAny_bind (wpAny_pure (wpAny_throw ?_))
  refine wpAny_bind (wpAny_isInstance (T := "StopIteration") (b := true) ⟨_, Heap.get?_push_size _ rfl, rfl⟩ isSubtype_stop (wpAny_pure (q _ ?_)))
  exact (b1.extBut.push _).push _
theorem wU (d : Addr) (lo : (d == sysModules) = false) : MeetsIn prog w (Builtin.«dict.items» ⟨[.ref d], []⟩) (fun _ R s => s.TypeIs (.ref d) "dict" ∧ R (.ok (.ret (.ref s.heap.objs.size))) { s with heap := s.heap.push { cls := .type "dict_items", data := .fields #[.ref d] } }) :=
  .of_wp fun A R s ⟨ty, h⟩ => by
    unfold Builtin.«dict.items» Builtin.Dict.noArgs
    refine wpAny_bind (wpAny_bind (wpAny_notOrdered_dict ty ?_))
    refine (show wpAny _ _ (pure d) _ _ s from wpAny_pure ?_)
    refine (show wpAny _ _ (Builtin.Dict.showsAll d >>= _) _ _ s from ?_)
    unfold Builtin.Dict.showsAll; rw [if_neg (by rw [lo]; decide)]
    exact wpAny_bind (wpAny_pure (wpAny_bind (wpAny_newObj_type (wpAny_pure ⟨_, rfl, h⟩))))
theorem wV {R : Value → Shared → Prop} (lo : (d == sysModules) = false) (r : g9 s.heap d es ep) (q : R (.ref s.heap.objs.size) { s with heap := s.heap.push { cls := .type "dict_items", data := .fields #[.ref d] } }) :
    wpAny (model prog w) A (call (.builtin "dict.items") [.ref d]) R E s := by
  obtain ⟨o, g, c, dt⟩ := r
  have ty : s.TypeIs (.ref d) "dict" := ⟨o, g, c⟩
  exact call_meetsIn PySem.F.slot_dict_items ty PySem.F.entry_dict_items (PySem.F.args_dict_items_1 _) (wU d lo) ⟨ty, q⟩
theorem wW {v : Addr} {Q : Value → Shared → Prop} (hv : s.heap.IsItemsView v d) (r : g9 s.heap d es ep)
    (q : ∀ h', h'.objs.size = s.heap.objs.size + 1 → IsItemIter h' s.heap.objs.size d 0 es.size ep .none .none → (∀ b o, s.heap.get? b = some o → h'.get? b = some o) → Q (.ref s.heap.objs.size) { s with heap := h' }) : wpAny (model prog w) A (pyIter (.ref v)) Q E s := by
  obtain ⟨ov, gv, cv, dv⟩ := id hv
  obtain ⟨o, g, c, dt⟩ := r
  refine wpAny_pyIter_slot hv.typeIs PySem.F.slot_dict_items_iter (wpAny_call_entry PySem.F.slot_dict_items_iter hv.typeIs PySem.F.entry_dict_items_iter ?_ (PySem.F.args_dict_items_iter_1 _))
  unfold Builtin.«dict_items.__iter__» Builtin.Dict_items.dictOf Builtin.Dict_items.newIterator
  refine wpAny_bind (wpAny_pure (wpAny_bind (wpAny_bind (wpAny_field gv dv (x := .ref d) rfl (wpAny_pure ?_)))))
  refine wpAny_bind (wpAny_bind (wpAny_dictEntries g dt (wpAny_bind (wpAny_dictEpoch g dt ?_))))
  simp only [show Builtin.Dict_items.ownsTuple "dict_itemiterator" = true by decide, if_true]
  refine wpAny_newObj_type (wpAny_pure ⟨_, rfl, "dict_itemiterator", _, ⟨_, Heap.get?_push_size _ rfl, rfl⟩, PySem.F.slot_dict_itemiterator_next.lookup, q _ (Heap.size_push ..) ?_ fun b o e => Heap.get?_push_of_some _ e⟩) ?_
  · refine (Heap.get?_push_size _ rfl).trans ?_
    simp [rawInt, Builtin.Dict_items.ownedTupleFields]
  · simp only [sizeOk, Builtin.Dict_items.ownedTupleFields, List.size_toArray, List.length_append, List.length_cons, List.length_nil]
    decide
theorem wX {ok ov : Value} {Q : Option Value → Shared → Prop} (gi : IsItemIter s.heap it d i es.size ep ok ov) (r : g9 s.heap d es ep) (hi : i < es.size)
    (q : ∀ h', IsItemIterOut h' it d (i + 1) es.size ep es[i].key es[i].val s.heap.objs.size → h'.get? s.heap.objs.size = some { cls := .type "tuple", data := .seq #[es[i].key, es[i].val] } → h'.objs.size = s.heap.objs.size + 1 →
      (∀ b o, b ≠ it → s.heap.get? b = some o → h'.get? b = some o) → Q (some (.ref s.heap.objs.size)) { s with heap := h' }) : wpAny (model prog w) A (pyNext (.ref it)) Q E s := by
  obtain ⟨hp, gn, dr, tk, os⟩ := s
  obtain ⟨o, g, c, dt⟩ := r
  have ty : Shared.TypeIs ⟨hp, gn, dr, tk, os⟩ (.ref it) "dict_itemiterator" := ⟨_, gi, rfl⟩
  unfold pyNext
  refine wpAny_bind (wpAny_attempt (wpAny_callSpecial?_slot (name := Str.ofString "__next__") ty PySem.F.slot_dict_itemiterator_next (wpAny_call_entry PySem.F.slot_dict_itemiterator_next ty PySem.F.entry_dict_itemiterator_next ?_ (PySem.F.args_dict_itemiterator_next_1 _))))
  refine wpAny_bind (wpAny_pure (wpAny_bind (wpAny_bind ?_)))
  refine wpAny_bind (wpAny_typeNameOfWhole_itemiter ty (wpAny_pure (wpAny_bind (wpAny_fieldsOf gi rfl ?_))))
  simp only [show Builtin.Dict_items.ownsTuple "dict_itemiterator" = true by decide, if_true]
  refine (show wpAny _ _ (if (Value.ref d == Value.none) = true then _ else _) _ _ _ from ?_)
  rw [if_neg (oS d)]
  refine wpAny_bind (wpAny_pure (wpAny_bind (wpAny_dictEntries g dt ?_)))
  rw [if_neg (by simp)]
  refine wpAny_bind (wpAny_pure (wpAny_bind (wpAny_dictEpoch g dt ?_)))
  rw [if_neg (by simp)]
  refine wpAny_pure ?_
  simp only [show ¬ ((i : Int) < 0) by omega, if_false, Int.toNat_natCast, Array.getElem?_eq_getElem hi]
  refine wpAny_bind (wpAny_bind (wpAny_typeNameOfWhole_itemiter ty (wpAny_pure (wpAny_bind (wpAny_isOneOf_itemiter ty ?_)))))
  refine (show wpAny _ _ (setField (.ref it) 3 (rawInt ((i : Int) + 1)) >>= _) _ _ ⟨hp, gn, dr, tk, os⟩ from wpAny_bind (wpAny_setField_rec gi (by simp) fun h1 e1 b1 => ?_))
  have e1 : IsItemIter h1 it d (i + 1) es.size ep ok ov := e1.trans (by simp [rawInt])
  have Kx : Shared.TypeIs ⟨h1, gn, dr, tk, os⟩ (.ref it) "dict_itemiterator" := ⟨_, e1, rfl⟩
  refine wpAny_bind (wpAny_holding (wpAny_bind (wpAny_isOneOf_itemiter Kx (wpAny_bind (wpAny_isOneOf_itemiter Kx ?_)))))
  refine (show wpAny _ _ (Builtin.Dict_items.pairFromOwner (.ref it) 6 es[i].key es[i].val) _ _ ⟨h1, gn, dr, tk, os⟩ from ?_)
  unfold Builtin.Dict_items.pairFromOwner
  refine wpAny_bind (wpAny_newTuple ?_)
  have b1 : Heap.SameBut it hp h1 := b1
  have z1 : h1.objs.size = hp.objs.size := b1.1
  have il : it < hp.objs.size := Heap.lt_size gi
  obtain ⟨h2, zF⟩ : ∃ h2, h2 = h1.push { cls := .type "tuple", data := .seq #[es[i].key, es[i].val] } := ⟨_, rfl⟩
  have e2 : IsItemIter h2 it d (i + 1) es.size ep ok ov := by rw [zF]; exact Heap.get?_push_of_some _ e1
  have t2 : h2.get? hp.objs.size = some { cls := .type "tuple", data := .seq #[es[i].key, es[i].val] } := by rw [zF, ← z1]; exact Heap.get?_push_size _ rfl
  have z2 : h2.objs.size = hp.objs.size + 1 := by rw [zF, Heap.size_push, z1]
  have k2 : ∀ b o, b ≠ it → hp.get? b = some o → h2.get? b = some o := fun b o hb e => by rw [zF]; exact Heap.get?_push_of_some _ (b1.extBut b o hb e)
  refine (show wpAny _ _ (Builtin.Dict_items.ownedTupleIsFree (.ref it) >>= _) _ _ ⟨h1.push { cls := .type "tuple", data := .seq #[es[i].key, es[i].val] }, gn, dr, tk, os⟩ from ?_)
  rw [← zF, z1]
  unfold Builtin.Dict_items.ownedTupleIsFree
  refine wpAny_bind (wpAny_bind (wpAny_field e2 rfl (x := .none) rfl (wpAny_pure ?_)))
  simp only [if_true]
  refine wpAny_bind (wpAny_field e2 rfl (x := ok) rfl (wpAny_bind (wpAny_field e2 rfl (x := ov) rfl ?_)))
  refine wpAny_bind (wpAny_setField_rec e2 (by simp) fun h3 e3 b3 => wpAny_bind (wpAny_setField_rec e3 (by simp) fun h4 e4 b4 => wpAny_bind (wpAny_setField_rec e4 (by simp) fun h5 e5 b5 => wpAny_bind (wpAny_setField_rec e5 (by simp) fun h6 e6 b6 => ?_))))
  have b3 : Heap.SameBut it h2 h3 := b3
  have b4 : Heap.SameBut it h3 h4 := b4
  have b5 : Heap.SameBut it h4 h5 := b5
  have b6 : Heap.SameBut it h5 h6 := b6
  have all : ∀ b o, b ≠ it → h2.get? b = some o → h6.get? b = some o := fun b o n e => b6.extBut b o n (b5.extBut b o n (b4.extBut b o n (b3.extBut b o n e)))
  refine wpAny_bind (wpAny_letGo (wpAny_pure (wpAny_pure ⟨_, rfl, wpAny_pure (q h6 e6 (all _ _ (Nat.ne_of_gt il) t2) ?_ fun b o n e => all b o n (k2 b o n e))⟩)))
  exact (show h6.objs.size = _ by rw [b6.1, b5.1, b4.1, b3.1, z2])
theorem zG {ok ov : Value} {Q : Option Value → Shared → Prop} (hh : A.handled = none) (gi : IsItemIter s.heap it d i es.size ep ok ov) (r : g9 s.heap d es ep) (hi : es.size ≤ i)
    (q : ∀ h', Heap.ExtBut it s.heap h' → Q none { s with heap := h' }) : wpAny (model prog w) A (pyNext (.ref it)) Q E s := by
  obtain ⟨o, g, c, dt⟩ := r
  have ty : s.TypeIs (.ref it) "dict_itemiterator" := ⟨_, gi, rfl⟩
  unfold pyNext
  refine wpAny_bind (wpAny_attempt (wpAny_callSpecial?_slot (name := Str.ofString "__next__") ty PySem.F.slot_dict_itemiterator_next (wpAny_call_entry PySem.F.slot_dict_itemiterator_next ty PySem.F.entry_dict_itemiterator_next ?_ (PySem.F.args_dict_itemiterator_next_1 _))))
  refine wpAny_bind (wpAny_pure (wpAny_bind (wpAny_bind ?_)))
  refine wpAny_bind (wpAny_typeNameOfWhole_itemiter ty (wpAny_pure (wpAny_bind (wpAny_fieldsOf gi rfl ?_))))
  simp only [show Builtin.Dict_items.ownsTuple "dict_itemiterator" = true by decide, if_true]
  refine (show wpAny _ _ (if (Value.ref d == Value.none) = true then _ else _) _ _ s from ?_)
  rw [if_neg (oS d)]
  refine wpAny_bind (wpAny_pure (wpAny_bind (wpAny_dictEntries g dt ?_)))
  rw [if_neg (by simp)]
  refine wpAny_bind (wpAny_pure (wpAny_bind (wpAny_dictEpoch g dt ?_)))
  rw [if_neg (by simp)]
  refine wpAny_pure ?_
  simp only [show ¬ ((i : Int) < 0) by omega, if_false, Int.toNat_natCast, Array.getElem?_eq_none hi]
  refine wpAny_bind (wpAny_bind (wpAny_typeNameOfWhole_itemiter ty (wpAny_pure ?_)))
  refine (show wpAny _ _ (setField (.ref it) 2 .none >>= _) _ _ s from wpAny_bind (wpAny_setField_rec gi (by simp) fun h1 e1 b1 => ?_))
  refine (show wpAny _ _ (newExc (.type "StopIteration") [] >>= _) _ _ _ from wpAny_bind ?_)
  simp only [newExc, newTuple]
  refine wpAny_bind (wpAny_newObj_type (wpAny_bind (m := firstArgMember _ _) (wpAny_of_eq (a := Value.none) (by first | rfl | (simp only [firstArgMember]; rfl)) (wpAny_newObj_type ?_ (by size_fits)))) (by size_fits))
  simp only [raiseNew]
  refine wpAny_bind (wpAny_handled ?_)
  rw [show A.in1.handled = none from hh]
  refine wpAny_bind (wpAny_pure (wpAny_throw ?_))
  refine wpAny_bind (wpAny_isInstance (T := "StopIteration") (b := true) ⟨_, Heap.get?_push_size _ rfl, rfl⟩ isSubtype_stop (wpAny_pure (q _ ?_)))
  exact (b1.extBut.push _).push _
end
noncomputable def CJ (es : Array DictEntry) (ps : List (V × V)) : Prop := es.size = ps.length ∧ ∀ (i : Nat) (p : V × V), ps[i]? = some p → ∃ hi : i < es.size, RelV p.1 es[i].key ∧ RelV p.2 es[i].val
inductive wY (H : Hp) : HO → List (V × V) → Prop where
  | k (au : List (Key × V)) : wY H (.dK au) (au.map fun kv => (kV kv.1, kv.2))
  | t (au : List (List Key × V)) (bs : List Addr) (hl : bs.length = au.length) (h : ∀ (i : Nat) (b : Addr) (kv : List Key × V), bs[i]? = some b → au[i]? = some kv → H b = some (.tup (kv.1.map kV))) : wY H (.dT au) ((bs.map V.ref).zip (au.map (·.2)))
theorem BE {P : Program} {w : World} {k : Key} {u : Value} (h : (bJ P w).is k u = true) : RelV (kV k) u := by
  rcases bS (k := k) (v := u) h with ⟨i, t, rfl, rfl⟩ | ⟨x, t, rfl, rfl⟩
  · exact ⟨t, rfl⟩
  · exact ⟨t, rfl⟩
theorem jD {α β : Type} {F : α → β → Prop} : ∀ {l : List α} {m : List β} {i : Nat} {a : α}, Paired F l m → l[i]? = some a → ∃ b, m[i]? = some b ∧ F a b
  | _, _, _, _, .nil, h => by simp at h
  | _, _, 0, _, .cons x _, h => by simp at h; subst h; exact ⟨_, rfl, x⟩
  | _, _, i + 1, _, .cons _ t, h => by obtain ⟨b, e, q⟩ := jD (i := i) t (by simpa using h); exact ⟨b, by simpa using e, q⟩
section
variable {P : Program} {w : World} {H : Hp} {h : Heap} {a : Addr} {u : HO}
structure Rows (H : Hp) (h : Heap) (a : Addr) (u : HO) (o : Obj) (es : Array DictEntry) (ep : Nat) (ps : List (V × V)) : Prop where
  obj : h.get? a = some o
  cls : o.cls = .type "dict"
  dict : o.dict = none
  data : o.data = .dict es ep
  lo : (a == sysModules) = false
  rel : CJ es ps
  ps : wY H u ps
theorem vo (ok : cc P w H h) (e : Rd H a u) (hu : i5 u = true) : ∃ o es ep ps, Rows H h a u o es ep ps := by
  have q := e.ok ok
  cases u with
  | dK au =>
    obtain ⟨z, lo, vs, rel, o, es, ep, g, x, dt, hk, hp, hn⟩ := q
    refine ⟨o, es, ep, _, g, x.1, x.2.1, dt, lo, ⟨?_, fun i p hi => ?_⟩, .k au⟩
    · have h1 := hp.length
      have h2 := rel.length
      simp only [List.length_map, Array.length_toList] at h1 ⊢
      omega
    · rw [List.getElem?_map, Option.map_eq_some_iff] at hi
      obtain ⟨kv, qU, rfl⟩ := hi
      obtain ⟨⟨k', v'⟩, hv, e1, e2⟩ := jD rel qU
      have hl : i < es.size := by
        have h1 := hp.length
        have h2 := (List.getElem?_eq_some_iff.mp hv).1
        simp only [Array.length_toList] at h1
        omega
      obtain ⟨a1, a2⟩ := hp.get? (e := es[i]) (by simp [hl]) hv
      refine ⟨hl, ?_, ?_⟩
      · rw [e1]; exact BE a1
      · rw [a2]; exact e2
  | dT au =>
    obtain ⟨z, lo, xs, rel, o, es, ep, g, x, dt, he, hn⟩ := q
    have N3 : au.length = xs.length := Paired.length rel
    have N4 : es.size = xs.length := by
      have := congrArg List.length he
      simpa using this
    refine ⟨o, es, ep, _, g, x.1, x.2.1, dt, lo, ⟨?_, fun i p hi => ?_⟩, .t au (xs.map (·.2.1)) (by rw [List.length_map]; exact N3.symm) fun i b kv hb qU => ?_⟩
    · simp only [List.length_zip, List.length_map]; omega
    · rw [List.getElem?_zip_eq_some, List.map_map, List.getElem?_map, List.getElem?_map, Option.map_eq_some_iff, Option.map_eq_some_iff] at hi
      obtain ⟨⟨x1, zH, e1⟩, ⟨kv, qU, e2⟩⟩ := hi
      obtain ⟨x2, zI, _, _, r⟩ := jD rel qU
      rw [zH] at zI
      cases zI
      have hl : i < es.size := by rw [N4]; exact (List.getElem?_eq_some_iff.mp zH).1
      have Ky : es[i] = entryOfKey (tupleKind (bJ P w)) x1 := by
        have : es.toList[i]? = some (entryOfKey (tupleKind (bJ P w)) x1) := by rw [he, List.getElem?_map, zH]; rfl
        rw [Array.getElem?_toList, Array.getElem?_eq_getElem hl] at this
        exact Option.some.inj this
      refine ⟨hl, ?_, ?_⟩
      · rw [Ky, ← e1]; rfl
      · rw [Ky, ← e2]; exact r
    · rw [List.getElem?_map, Option.map_eq_some_iff] at hb
      obtain ⟨x1, zH, rfl⟩ := hb
      obtain ⟨x2, zI, e1, e2, _⟩ := jD rel qU
      rw [zH] at zI
      cases zI
      exact e2
  | _ => cases hu
end
inductive gJ (a : Addr) (o : Obj) (u : HO) (H : Hp) : Hp → Prop where
  | now (e : H a = some u) (hu : i5 u = true) : gJ a o u H (upd H a (.bA o u))
  | was (e : H a = some (.bA o u)) : gJ a o u H H
theorem gJ.at {a : Addr} {o : Obj} {u : HO} {H H2 : Hp} (f : gJ a o u H H2) : H2 a = some (.bA o u) := by
  cases f with
  | now e hu => exact ay
  | was e => exact e
section
variable {X : Cx} {pins : List (Addr × Obj)} {σ : St} {H : Hp} {s : Shared} {a : Addr} {o : Obj} {u : HO}
theorem Inv.bA (I : Inv X pins σ H s) (e : H a = some u) (hu : i5 u = true) (ho : s.heap.get? a = some o) : Inv X pins σ (upd H a (.bA o u)) s := by
  have nT : ∀ b v, H b = some v → i5 v = false → b ≠ a := fun b v q n z => by rw [z, e] at q; cases q; rw [hu] at n; cases n
  have n0 : ∀ b, H b = none → b ≠ a := fun b q z => by rw [z, e] at q; cases q
  have J := I.un (t' := s.toks) (h' := s.heap) (H' := upd H a (.bA o u)) ⟨fun b v q n _ _ => q, fun b v q n _ _ => ⟨v.slots, q⟩, fun b v q n _ => by rw [ae (n0 b n)]; exact n, fun b v q _ => ⟨v, q⟩, fun b xs q => by rw [ae (nT b _ q rfl)]; exact q,
    fun b v xs q => by rw [ae (nT b _ q rfl)]; exact q, fun b qs q => ⟨#[], by rw [ae (nT b _ q rfl), q]; simp⟩⟩ fun b v q => ?_
  · exact J
  · by_cases hb : b = a
    · subst hb
      rw [ay] at q; cases q
      exact ⟨ho, (I.hok b u e).bO (fun _ _ _ z => z) (fun c z => by rw [ae (nT c _ z rfl)]; exact z) fun c xs z => by rw [ae (nT c _ z rfl)]; exact z⟩
    · rw [ae hb] at q
      exact (I.hok b v q).bO (fun _ _ _ z => z) (fun c z => by rw [ae (nT c _ z rfl)]; exact z) fun c xs z => by rw [ae (nT c _ z rfl)]; exact z
theorem Inv.D6 (I : Inv X pins σ H s) (d : Rd H a u) (hu : i5 u = true) : ∃ o H2 es ep ps, gJ a o u H H2 ∧ Inv X pins σ H2 s ∧ Rows H s.heap a u o es ep ps := by
  obtain ⟨o, es, ep, ps, R⟩ := vo I.hok d hu
  rcases d with d | ⟨o', d⟩
  · exact ⟨o, _, es, ep, ps, .now d hu, I.bA d hu R.obj, R⟩
  · have e := (I.hok a _ d).1
    rw [R.obj] at e
    cases e
    exact ⟨o, H, es, ep, ps, .was d, I, R⟩
end
noncomputable def Ho (a : Addr) (o : Obj) (u : HO) (ps : List (V × V)) : It := ⟨fun i H => H a = some (.bA o u) ∧ i < ps.length, fun i H x H' => ∃ t p, H t = none ∧ x = .ref t ∧ ps[i]? = some p ∧ H' = upd H t (.tup [p.1, p.2]), fun i H => H a = some (.bA o u) ∧ ps.length ≤ i⟩
section
variable {P : Program} {w : World} {K : PySem.W.Frag} {a it : Addr} {o : Obj} {u : HO} {es : Array DictEntry} {ep : Nat} {ps : List (V × V)}
theorem wZ {elts : List Expr} {x1 : Nat} {pos : Pos} (tK : o.cls = .type "dict") (Kz : o.data = .dict es ep) (rel : CJ es ps) (eE : a ≠ it) : Turn P w K (.Tuple elts x1 pos) (Ho a o u ps) [it] it (fun i h => ∃ ok ov, IsItemIter h it a i es.size ep ok ov) where
  mem := by simp
  obj := fun i h st b hb => by
    obtain ⟨ok, ov, st⟩ := st
    have e : b = it := by simpa using hb
    subst e
    exact ⟨_, st, fun v z => nomatch z⟩
  keep := fun i h h' ⟨ok, ov, st⟩ k => ⟨ok, ov, k it (by simp) _ st⟩
  item := by
    intro X hP hw hK hc i pins s σ H E I hf st hg
    subst hP hw hK
    obtain ⟨ok, ov, st⟩ := st
    obtain ⟨ha, hi⟩ := hg
    have hr : g9 s.heap a es ep := ⟨o, (I.hok a _ ha).1, tK, Kz⟩
    obtain ⟨p, hp⟩ : ∃ p, ps[i]? = some p := ⟨_, List.getElem?_eq_getElem hi⟩
    obtain ⟨mP, r1, r2⟩ := rel.2 i p hp
    refine wX st hr mP fun h1 eo t1 z1 kk => ⟨_, rfl, wpAny_letOwnedTupleGo_items (s := { s with heap := h1 }) eo fun h2 e2 (oB : Heap.SameBut it h1 h2) => ?_⟩
    have il : it < s.heap.objs.size := Heap.lt_size st
    have I2 : Inv X pins σ H { s with heap := h2 } := I.pC (t' := s.toks) (ch := [it]) (fun b o hb q => by
      have hb : b ≠ it := by simpa using hb
      exact (oB.2 b hb).trans (kk b o hb q)) fun b hb => hf b hb
    have t2 : h2.get? s.heap.objs.size = some { cls := .type "tuple", data := .seq #[es[i].key, es[i].val] } := (oB.2 _ (Nat.ne_of_gt il)).trans t1
    have hn : H s.heap.objs.size = none := I.hok.fresh (Nat.le_refl _)
    refine ⟨.ref s.heap.objs.size, _, Inv.pair (s := s) (tk0 := s.toks) I (Nat.le_refl _) I2 t2 r1 r2, rfl, ⟨_, p, hn, rfl, hp, rfl⟩, ⟨_, _, e2⟩, fun b hb => ?_⟩
    have l : b ≠ s.heap.objs.size := by
      have e : b = it := by simpa using hb
      rw [e]; exact Nat.ne_of_lt il
    rw [ae l]
    exact (hf b hb).1
  done := by
    intro X hP hw hK hc i pins s σ H E I hf st hg
    subst hP hw hK
    obtain ⟨ok, ov, st⟩ := st
    obtain ⟨ha, hi⟩ := hg
    have hr : g9 s.heap a es ep := ⟨o, (I.hok a _ ha).1, tK, Kz⟩
    obtain ⟨f0, f1, f2, f3, f4, f5⟩ := hf it (by simp)
    exact zG (I.ok.hd hc) st hr (by rw [rel.1]; exact hi) fun h' eb => ⟨rfl, I.turned (t' := s.toks) (fun b o hb e => eb b o hb e) f0 f1 f3 f4 f5⟩
  self := fun A i s Q E st h => by
    obtain ⟨ok, ov, st⟩ := st
    exact PySem.W.kcp_self st h
end
end L2
namespace L2
open PySem PySem.Spec PySem.W PyProof.Rows
section
variable {X : Cx} {Γ : Gz} {K : PySem.W.Frag}
open Classical in
theorem BF {A : Around} {E : Value → Shared → Prop} {s : Shared} {P : Program} {w : World} {d : Addr} {o : Obj} {es : Array DictEntry} {ep : Nat} {Q : Value → Shared → Prop} (hd : (d == sysModules) = false) (ho : s.heap.get? d = some o) (hc : o.cls = .type "dict") (L8 : o.data = .dict es ep) (OS : (es.size : Int) < 2 ^ 63)
    (h : Q (.int es.size (s.toks + 1)) { s with toks := s.toks + 1 + 1 }) : wpAny (model P w) A (call (.builtin "len") [.ref d]) Q E s := by
  have mt : Meets (Builtin.«dict.__len__» ⟨[.ref d], []⟩) (fun _ R s' => s'.heap.get? d = some o ∧ R (.ok (.ret (.int es.size s'.toks))) { s' with toks := s'.toks + 1 }) := .of_wp fun P w A R s' ⟨hg, hR⟩ => by
    show wpAny _ _ (dictSize d >>= _) _ _ s'
    unfold dictSize
    exact wpAny_bind (wpAny_bind (wpAny_dictEntries hg L8 (wpAny_pure (wpAny_bind (wpAny_pendingCount_other hd (wpAny_ret_mkInt (by rw [Nat.add_zero]; exact hR)))))))
  exact call_len_meets ⟨_, ho, hc⟩ F.slot_dict_len F.entry_dict_len (F.args_dict_len_1 _) mt (by omega) (by omega) (fun _ q => ⟨ho, q⟩) h
noncomputable def zLenT (d : Dv) (M : Mh) (Q : ZK) : Prop := match nowK M d with | .dt ks _ => Q (.int ks.length) M | _ => False
theorem Hq : fx Γ X (.builtin "len") (z1 zLenT) := ⟨fun xs H Q => ∃ a au, xs = [.ref a] ∧ Rd H a (.dT au) ∧ Q (.int au.length) H, fun pins s σ H xs us Q I rs ⟨a, au, e, ha, q⟩ => by
  subst e
  cases rs with
  | cons r1 rs =>
    cases rs
    cases r1
    obtain ⟨o, es, ep, ps, R⟩ := vo I.hok ha rfl
    have hl := (oC I.hok ha).1
    have hp : ps.length = au.length := by
      cases R.ps with
      | t _ bs hl h => simp only [List.length_zip, List.length_map]; omega
    have he : es.size = au.length := R.rel.1.trans hp
    refine BF R.lo R.obj R.cls R.data (by rw [he]; rw [show sizeLine = 16777216 from rfl] at hl; omega) ⟨.int au.length, H, I.tok _, ⟨_, by rw [he]⟩, q⟩, fun β xs ds M H Q Q' _ _ _ m rs z q => by
  unfold z1 at z
  split at z
  · obtain ⟨x, rfl, r⟩ := d6 rs
    unfold zLenT at z
    split at z
    · rename_i ks ds hk
      obtain ⟨a, vs, rfl, ha, hk, _⟩ := (vj m r).2 _ _ hk
      refine ⟨a, _, rfl, ha, ?_⟩
      rw [List.length_zip, ← hk, Nat.min_self]
      exact q _ _ _ _ (.refl m) (.int _) z
    · exact z.elim
  · exact z.elim⟩
end
end L2
namespace L2
open PySem PySem.Spec PyProof.Rows
section
variable {X : Cx} {tg l : Expr} {tl : TE}
noncomputable def Hr (tl : TE) : TI := fun σ H R => tl σ H fun x H1 => ∃ a u, x = .ref a ∧ i5 u = true ∧ Rd H1 a u ∧ ∀ o H2 ps, gJ a o u H1 H2 → wY H1 u ps → R (Ho a o u ps) H2
theorem BG {elts : List Expr} {x1 : Nat} {tp apos aY : Pos} (hl : PE X l tl) (hb : attributeBase l "items" X.env (eval l X.env) = eval l X.env := by rfl) (hn : (apos.endLine == aY.line) = true := by rfl) :
    PI X (.Tuple elts x1 tp) (.Call (.Attribute l "items" apos) [] [] aY) (Hr tl) := by
  intro pins s σ H R I h
  refine wpAny_Call_method0_late hb hn (thn (hl pins s σ H _ I h) fun v s1 ⟨x, H1, I1, r1, q1⟩ => ?_)
  obtain ⟨a, u, e, hu, hr, q⟩ := q1
  subst e
  cases r1
  obtain ⟨o, H2, es, ep, ps, f, I2, rw⟩ := I1.D6 hr hu
  have aT := Heap.lt_size rw.obj
  refine ⟨"dict", "dict.items", PySem.F.plainAttrs_dict, PySem.F.slot_dict_items, PySem.F.type_dict_items, ⟨o, rw.obj, rw.cls⟩, fun b e => by cases e; exact ⟨o, rw.obj, rw.dict⟩, Calls.callWith_builtin rfl (PySem.evalArgs_none (wV rw.lo ⟨o, rw.obj, rw.cls, rw.data⟩ ?_))⟩
  refine wW (v := s1.heap.objs.size) (d := a) ⟨_, Heap.get?_push_size _ rfl, rfl, rfl⟩ ⟨o, Heap.get?_push_of_some _ rw.obj, rw.cls, rw.data⟩ fun h' hz hit hk => ?_
  have hsz : (s1.heap.push { cls := .type "dict_items", data := .fields #[.ref a] }).objs.size = s1.heap.objs.size + 1 := by simp [Heap.push]
  have eE : a ≠ (s1.heap.push { cls := .type "dict_items", data := .fields #[.ref a] }).objs.size := Nat.ne_of_lt (by rw [hsz]; exact Nat.lt_succ_of_lt aT)
  refine ⟨_, [(s1.heap.push { cls := .type "dict_items", data := .fields #[.ref a] }).objs.size], _, _, H2, rfl, I2.kept (t' := s1.toks) fun b o e => hk b o (Heap.get?_push_of_some _ e), wZ rw.cls rw.data rw.rel eE, ⟨_, _, hit⟩, fun b hb => ?_, q o H2 ps f rw.ps⟩
  have e : b = (s1.heap.push { cls := .type "dict_items", data := .fields #[.ref a] }).objs.size := by simpa using hb
  rw [e]
  have hle : s1.heap.objs.size ≤ (s1.heap.push { cls := .type "dict_items", data := .fields #[.ref a] }).objs.size := by rw [hsz]; exact Nat.le_succ _
  exact I2.jH hle (I2.hok.fresh hle)
end
theorem Ex.bA {β : Bz} {M : Mh} {H H2 : Hp} {a : Addr} {o : Obj} {u : HO} (m : Mz β M H) (f : gJ a o u H H2) (fz : Fz β M a) : Ex β M H M H2 := by
  cases f with
  | was e => exact .refl m
  | now e hu =>
    have y : Ey M H M (upd H a (.bA o u)) := ⟨fun b v hm hb => by
      by_cases z : b = a
      · subst z
        rw [e] at hb
        cases hb
        exact .inr ⟨_, .inr (.inr ⟨hu, _, rfl⟩), ay⟩
      · exact .inl (by rw [ae z]; exact hb), fun _ h => h, fun _ _ h _ => h⟩
    have nd : ∀ b v, H b = some v → i5 v = false → b ≠ a := fun b v q n z => by rw [z, e] at q; cases q; rw [hu] at n; cases n
    refine ⟨y, ⟨fun b v hb => ?_, fun p hp => ?_, fun b hb => ?_, m.apart, fun p hp => ?_⟩⟩
    · have vp : b ≠ a := fun z => by rw [z, fz.1] at hb; cases hb
      have q := m.obj b v hb
      cases v with
      | cF =>
        obtain ⟨c, k, e2, r⟩ := q
        exact ⟨c, k, by rw [ae vp]; exact e2, r⟩
      | lst ds =>
        obtain ⟨us, e2, ru⟩ := q
        exact ⟨us, by rw [ae vp]; exact e2, ru.len, fun i w d p q => (ru.at' i w d p q).ey y⟩
      | dk ks ds =>
        obtain ⟨us, e2, hk, ru⟩ := q
        exact ⟨us, by rw [ae vp]; exact e2, hk, ru.len, fun i w d p q => (ru.at' i w d p q).ey y⟩
      | dt ks ds =>
        obtain ⟨us, e2, hk, ru⟩ := q
        exact ⟨us, by rw [ae vp]; exact e2, hk, ru.len, fun i w d p q => (ru.at' i w d p q).ey y⟩
    · obtain ⟨ps, e2, t⟩ := m.tabs p hp
      exact ⟨ps, by rw [ae (nd _ _ e2 rfl)]; exact e2, t⟩
    · obtain ⟨v, e2, n⟩ := m.hids b hb
      have vp : b ≠ a := fun z => fz.2 (by rw [← z]; exact hb)
      exact ⟨v, by rw [ae vp]; exact e2, n⟩
    · exact (m.lams p hp).keep (fun ps e2 => by rw [ae (nd _ _ e2 rfl)]; exact e2) fun c oc v e2 => by rw [ae (nd _ _ e2 rfl)]; exact e2
noncomputable def jJ : Key → Dv
  | .inl i => .int i
  | .inr z => .str z
noncomputable def ziKeys (p : aK) : eJ := fun ρ M R => p ρ M fun d M1 => match d with | .dk ks _ => R (ks.map jJ) M1 | .dt ks _ => R (ks.map fun k => .tup (k.map jJ)) M1 | _ => False
section
variable {X : Cx} {Γ : Gz} {β : Bz} {M : Mh} {H : Hp} {tg l : Expr} {p : aK}
theorem Hs (k : Key) : Rz β M H (kV k) (jJ k) := by
  cases k with
  | inl i => exact .int i
  | inr z => exact .str z
theorem tN (ks : List Key) : aD β M H (ks.map kV) (ks.map jJ) := ⟨by simp, fun i v d a b => by
  rw [List.getElem?_map] at a b
  cases e : ks[i]? with
  | none => rw [e] at a; cases a
  | some k => rw [e] at a b; cases a; cases b; exact Hs k⟩
theorem vq {α γ : Type} : ∀ {ks : List α} {vs : List γ}, ks.length = vs.length → (ks.zip vs).map (·.1) = ks
  | [], [], _ => rfl
  | k :: ks, v :: vs, h => by rw [List.zip_cons_cons, List.map_cons, vq (by simpa using h)]
noncomputable def ziItems (p : aK) : eJ := fun ρ M R => p ρ M fun d M1 => match d with | .dk ks ds => R (cU (ks.map jJ) ds) M1 | .dt ks ds => R (cU (ks.map fun k => .tup (k.map jJ)) ds) M1 | _ => False
theorem oU {a : Addr} {o : Obj} {u : HO} {ps : List (V × V)} (h : H a = some (.bA o u)) : wz (Ho a o u ps) ps H := fun i => ⟨fun hi => ⟨⟨h, hi⟩, fun v H' ⟨t, p, h1, h2, h3, h4⟩ => ⟨t, p, h1, h2, h3, h4⟩⟩, fun hi => ⟨h, hi⟩⟩
theorem vt {α γ : Type} : ∀ {ks : List α} {vs : List γ}, ks.length = vs.length → (ks.zip vs).map (·.2) = vs
  | [], [], _ => rfl
  | k :: ks, v :: vs, h => by rw [List.zip_cons_cons, List.map_cons, vt (by simpa using h)]
theorem zJ : ∀ (ks : List Key) (vs : List V), ((ks.zip vs).map fun kv => (kV kv.1, kv.2)) = (ks.map kV).zip vs
  | [], _ => rfl
  | _ :: _, [] => rfl
  | k :: ks, v :: vs => by rw [List.zip_cons_cons, List.map_cons, List.map_cons, List.zip_cons_cons, zJ ks vs]
theorem BH {ks : List (List Key)} {vs : List V} {bs : List Addr} (m : Mz β M H) (hk : ks.length = vs.length) (hb : bs.length = (ks.zip vs).length) (oi : ∀ (i : Nat) (b : Addr) (kv : List Key × V), bs[i]? = some b → (ks.zip vs)[i]? = some kv → H b = some (.tup (kv.1.map kV))) : aD β M H (bs.map V.ref) (ks.map fun k => .tup (k.map jJ)) := by
  have hz : (ks.zip vs).length = ks.length := by rw [List.length_zip, ← hk, Nat.min_self]
  refine ⟨by rw [List.length_map, List.length_map, hb, hz], fun i v d ha hd => ?_⟩
  rw [List.getElem?_map, Option.map_eq_some_iff] at ha hd
  obtain ⟨b, J9, rfl⟩ := ha
  obtain ⟨k, KA, rfl⟩ := hd
  have N5 : i < (ks.zip vs).length := by rw [hz]; exact (List.getElem?_eq_some_iff.mp KA).1
  have qU := List.getElem?_eq_getElem N5
  have ht := oi i b _ J9 qU
  have ek : ((ks.zip vs)[i]).1 = k := by
    have : ((ks.zip vs).map (·.1))[i]? = some ((ks.zip vs)[i]).1 := by rw [List.getElem?_map, qU]; rfl
    rw [vq hk, KA] at this
    exact (Option.some.inj this).symm
  rw [ek] at ht
  exact lr ⟨m.jT ht rfl, fun z => by
    obtain ⟨w, hw, n⟩ := m.hids b z
    rw [ht] at hw
    cases hw
    cases n⟩ ht (tN k)
theorem BI {elts : List Expr} {x1 : Nat} {tp apos aY : Pos} (hl : QE Γ X l p) (hb : attributeBase l "items" X.env (eval l X.env) = eval l X.env := by rfl) (hn : (apos.endLine == aY.line) = true := by rfl) :
    QI Γ X (.Tuple elts x1 tp) (.Call (.Attribute l "items" apos) [] [] aY) (ziItems p) := (BG hl hb hn).imp fun σ H R ⟨β, ρ, M, R', zr, h, q⟩ => ⟨β, ρ, M, _, zr, h, fun d M1 v H1 x1 r1 h1 => by
  revert h1
  split
  · intro h1
    rename_i ks ds
    cases r1 with
    | @dk a _ vs _ f e hk hl hh =>
      refine ⟨a, .dK (ks.zip vs), rfl, rfl, e, fun o H2 ps g Ht => ?_⟩
      have x2 := Ex.bA x1.mz g f
      have rv : aD β M1 H1 vs ds := ⟨hl, hh⟩
      cases Ht
      rw [zJ]
      exact q _ _ _ _ (x1.trans x2) (jz (tN ks) (rv.ex x2) fun M' H' x => oU (x.get f.1 g.at rfl)) h1
  · intro h1
    rename_i ks ds
    cases r1 with
    | @dt a _ vs _ f e hk hl hh =>
      refine ⟨a, .dT (ks.zip vs), rfl, rfl, e, fun o H2 ps g Ht => ?_⟩
      have x2 := Ex.bA x1.mz g f
      have rv : aD β M1 H1 vs ds := ⟨hl, hh⟩
      cases Ht with
      | t _ bs hb oi =>
        rw [vt hk]
        exact q _ _ _ _ (x1.trans x2) (jz ((BH x1.mz hk hb oi).ex x2) (rv.ex x2) fun M' H' x => oU (x.get f.1 g.at rfl)) h1
  · exact fun h => h.elim⟩
end
section
variable {Γ : Gz} {X : Cx} {K : PySem.W.Frag}
noncomputable def zCatLP : dZ := fun d e M Q => match d, e with | .lst ds, .lst es => ds.length + es.length ≤ sizeLine ∧ ∀ a, M a = none → Q (.ptr a) (ax M a (.lst (ds ++ es))) | _, _ => False
theorem D7 (hK : X.K = K) : du Γ X (binaryOp .Add) zCatLP := ⟨_, FI, fun β x y d e M H Q Q' _ _ _ m rx ry z q => by
  unfold zCatLP at z
  split at z
  · obtain ⟨a, vs, rfl, f, ha, rs⟩ := fU rx
    obtain ⟨b, us, rfl, f2, hb, fV⟩ := fU ry
    refine ⟨a, b, vs, us, rfl, rfl, ha, hb, by rw [rs.len, fV.len]; exact z.1, fun p hp => ?_⟩
    have x2 := Ex.own m (.inr hp) (rs.append fV)
    exact q _ _ _ _ x2 (.ptr (by rw [updM_same]; rfl)) (z.2 p (m.free hp))
  · exact z.elim⟩
end
theorem fL {g : cq} {te : aK} (J : List Dv → aA → Mh → Prop) : ∀ {ds acc : List Dv} {τ : aA} {M : Mh} {Q : List Dv → Mh → Prop}, J acc τ M →
    (∀ i d hZ τ M, ds[i]? = some d → hZ.length = acc.length + i → J hZ τ M → ∀ R : aA → ZK, (∀ y aB M2, J (hZ ++ [y]) aB M2 → R aB y M2) → g d τ M fun aB M2 => te aB M2 (R aB)) →
    (∀ ys τ M, ys.length = ds.length → J (acc ++ ys) τ M → Q ys M) → fH g zNoIf te ds τ M Q
  | [], acc, τ, M, Q, j, _, q => q [] τ M rfl (by rw [List.append_nil]; exact j)
  | d :: ds, acc, τ, M, Q, j, h, q => by
    refine h 0 d acc τ M rfl rfl j (fun aB y M4 => fH g zNoIf te ds aB M4 fun ys M5 => Q (y :: ys) M5) fun y aB M2 j2 => ?_
    refine fL J (acc := acc ++ [y]) j2 (fun i d' hZ bZ M' e1 e2 j' R hR => ?_) fun ys jY M3 e3 j3 => ?_
    · exact h (i + 1) d' hZ bZ M' e1 (by rw [e2, List.length_append]; simp; omega) j' R hR
    · exact q (y :: ys) jY M3 (by simp [e3]) (by rw [List.append_assoc] at j3; exact j3)
section
variable {X : Cx} {Γ : Gz} {tg elt iter : Expr} {ifs : List Expr} {scope : Scope} {pos : Pos} {N' : List Str} {tn : Nat} {idx : List Nat}
theorem tO {zi : eJ} {g : cq} {tt : cH} {te : aK} {i : Nat} {y : Str} {py iV : Pos} (hN : X.N.Nodup) (dU : X.N[i]? = some y) (hy : X.env.scope.names.lookup y = some .local) (hc : X.calm = true) (B : dm X.N X.env.scope scope N' tn idx) (hi : QI Γ X tg iter zi)
    (hg : km X N' scope fun Y => QG Γ Y tg g) (ht : km X N' scope fun Y => qH Γ Y ifs tt) (he : km X N' scope fun Y => QE Γ Y elt te)
    (si : swapsWith (.ListComp elt [⟨tg, iter, ifs, 0⟩] scope pos) (some (.Name y py)) iV.line X.env = pure true := by rfl)
    (hs : ∀ x, foldedSetIterable iter X.env x = pure x := by intro _; rfl) : QS Γ X (.Assign [.Name y py] (.ListComp elt [⟨tg, iter, ifs, 0⟩] scope pos) iV) (zAsg (zCompP tn idx zi g tt te) (zgName i)) := (uy hN dU hy hc B hi hg ht he si hs).imp fun D σ H h => wD (fun _ _ _ h => pH h) h
end
theorem kr {a1 r : cp} {D : gm} {ρ : aA} {M : Mh} (I : aA → Mh → Prop) (h1 : ∀ N : aA → Mh → Prop, (∀ ρ M, I ρ M → N ρ M) → a1 { D with nx := N } ρ M) (h2 : ∀ ρ M, I ρ M → r D ρ M) : (zSeq a1 r) D ρ M := h1 _ h2
theorem Jo {a1 a2 r : cp} {D : gm} {ρ : aA} {M : Mh} (I : aA → Mh → Prop) (h1 : ∀ N : aA → Mh → Prop, (∀ ρ M, I ρ M → N ρ M) → (zSeq a1 a2) { D with nx := N } ρ M) (h2 : ∀ ρ M, I ρ M → r D ρ M) : (zSeq a1 (zSeq a2 r)) D ρ M := h1 _ h2
theorem Jp {a1 a2 a3 a4 r : cp} {D : gm} {ρ : aA} {M : Mh} (I : aA → Mh → Prop) (h1 : ∀ N : aA → Mh → Prop, (∀ ρ M, I ρ M → N ρ M) → (zSeq a1 (zSeq a2 (zSeq a3 a4))) { D with nx := N } ρ M) (h2 : ∀ ρ M, I ρ M → r D ρ M) : (zSeq a1 (zSeq a2 (zSeq a3 (zSeq a4 r)))) D ρ M := h1 _ h2
theorem Jq {a1 a2 a3 a4 a5 a6 a7 a8 r : cp} {D : gm} {ρ : aA} {M : Mh} (I : aA → Mh → Prop) (h1 : ∀ N : aA → Mh → Prop, (∀ ρ M, I ρ M → N ρ M) → (zSeq a1 (zSeq a2 (zSeq a3 (zSeq a4 (zSeq a5 (zSeq a6 (zSeq a7 a8))))))) { D with nx := N } ρ M) (h2 : ∀ ρ M, I ρ M → r D ρ M) : (zSeq a1 (zSeq a2 (zSeq a3 (zSeq a4 (zSeq a5 (zSeq a6 (zSeq a7 (zSeq a8 r)))))))) D ρ M := h1 _ h2
section
variable {X : Cx} {Γ : Gz}
theorem CK : du Γ X (binaryOp .LShift) (zIC vJ fun i j => .int (i * 2 ^ j.toNat)) := ⟨_, Fg, j0 fun _ _ _ _ _ => .int _⟩
theorem Jr : du Γ X (binaryOp .RShift) (zIC (fun _ j => 0 ≤ j) fun i j => .int (i / 2 ^ j.toNat)) := ⟨_, Fh, j0 fun _ _ _ _ _ => .int _⟩
theorem Js : du Γ X (binaryOp .BitAnd) (zII fun i j => .int (Builtin.bitAnd i j)) := ⟨_, Fi, jZ fun _ _ _ _ _ => .int _⟩
end
section
variable {β : Bz} {M M' : Mh} {H H' : Hp} {a : Addr} {o o' o2 mX : Mo}
theorem Rz.dom (hd : ∀ a, (M a).isSome = (M' a).isSome) {v : V} {d : Dv} (r : Rz β M H v d) : Rz β M' H v d :=
  r.mx (M0 := M') (fun a h => by rw [hd a]; exact h) (r.pin.mono fun a h => by rw [← hd a]; exact h)
theorem g6.dom (hd : ∀ a, (M a).isSome = (M' a).isSome) (h : g6 β M H a o) : g6 β M' H a o := by
  cases o with
  | lst ds => obtain ⟨vs, h1, rs⟩ := h; exact ⟨vs, h1, rs.len, fun i v d x y => (rs.at' i v d x y).dom hd⟩
  | cF => exact h
  | dk ks ds => obtain ⟨vs, h1, h2, rs⟩ := h; exact ⟨vs, h1, h2, rs.len, fun i v d x y => (rs.at' i v d x y).dom hd⟩
  | dt ks ds => obtain ⟨vs, h1, h2, rs⟩ := h; exact ⟨vs, h1, h2, rs.len, fun i v d x y => (rs.at' i v d x y).dom hd⟩
theorem iN (M : Mh) (a : Addr) (o o2 : Mo) (b : Addr) : (ax M a o b).isSome = (ax M a o2 b).isSome := by
  by_cases e : b = a
  · subst e; rw [updM_same, updM_same]; rfl
  · rw [ak e, ak e]
theorem jE {b : Addr} (o2 : Mo) (h : ax M a o b = none) : ax M a o2 b = none := by
  by_cases e : b = a
  · subst e; rw [updM_same] at h; cases h
  · rw [ak e] at h ⊢; exact h
theorem Mz.chg (m : Mz β (ax M a o) H) (h2 : g6 β (ax M a o2) H a o2) : Mz β (ax M a o2) H := by
  refine ⟨fun b u e => ?_, m.tabs, m.hids, fun b u e => ?_, m.lams⟩
  · by_cases z : b = a
    · subst z; rw [updM_same] at e; cases e; exact h2
    · rw [ak z] at e
      exact g6.dom (iN M a o o2) (m.obj b u (by rw [ak z]; exact e))
  · by_cases z : b = a
    · subst z; exact m.apart b o updM_same
    · rw [ak z] at e
      exact m.apart b u (by rw [ak z]; exact e)
theorem vw (h : M a = some o) : ax M a o = M := by
  funext b
  by_cases e : b = a
  · subst e; rw [updM_same, h]
  · rw [ak e]
theorem Ex.chg (x : Ex β (ax M a o) H (ax M a o') H') (h2 : g6 β (ax M a mX) H' a mX) : Ex β (ax M a o2) H (ax M a mX) H' :=
  ⟨⟨fun b u h e => x.keep b u (jE o h) e, fun b h => by rw [iN M a mX o']; exact x.dom b (by rw [iN M a o o2]; exact h), fun b u h e => jE mX (x.new b u (jE o h) e)⟩, x.mz.chg h2⟩
theorem Ex.sealed (hn : M a = none) (x : Ex β M H (ax M a o') H') (h2 : g6 β (ax M a mX) H' a mX) : Ex β M H (ax M a mX) H' :=
  ⟨⟨x.keep, fun b h => by rw [iN M a mX o']; exact x.dom b h, fun b u h e => jE mX (x.new b u h e)⟩, x.mz.chg h2⟩
theorem zK {c m : Int} (z : Mz β (ax M a (.lst [.int c, .int m])) H) (hc : 0 ≤ c) (hm : 0 ≤ m) : g6 β (ax M a .cF) H a .cF := by
  obtain ⟨vs, h, rs⟩ := z.obj a _ updM_same
  refine ⟨c, m, ?_, hc, hm⟩
  have := nz (ns := [c, m]) rs
  rw [h, this]
  rfl
theorem Hu (z : Mz β (ax M a .cF) H) : ∃ c m : Int, 0 ≤ c ∧ 0 ≤ m ∧ g6 β (ax M a (.lst [.int c, .int m])) H a (.lst [.int c, .int m]) := by
  obtain ⟨c, m, h, hc, hm⟩ := z.obj a _ updM_same
  exact ⟨c, m, hc, hm, _, h, nA (ns := [c, m])⟩
end
section
variable {X : Cx} {Γ : Gz} {K : PySem.W.Frag}
noncomputable def zIxS : dZ := fun d e M Q => match d, e with | .bh ns, .int i => (match cZ ns i with | some x => Q (.int x) M | none => False) | _, _ => False
theorem CL (hK : X.K = K) (hG : K = Γ.K) : GP Γ X zIxS := ⟨_, uV hK, fun β x y d e M H Q Q' _ _ eK m rx ry z q => by
  unfold zIxS at z
  split at z
  · rename_i ns i
    split at z
    · rename_i v hv
      obtain ⟨a, rfl, hS⟩ := qE rx
      rw [eK, ← hG] at hS
      exact .inl ⟨a, _, i, .int v, rfl, aL ry, hS, DW hv, q _ _ _ _ (.refl m) (.int _) z⟩
    · exact z.elim
  · exact z.elim⟩
end
noncomputable def qV (k : Nat) : Str := ⟨#[97 + k]⟩
theorem pP (k : Nat) : (qV k).length = 1 := rfl
theorem w5 (a b : Str) : (a ++ b).length = a.length + b.length := by
  show (a.cps ++ b.cps).size = a.cps.size + b.cps.size
  exact Array.size_append
section
variable {κ : Type} [DecidableEq κ]
theorem kL : ∀ (ks U : List κ), ks.Nodup → (∀ k ∈ ks, k ∈ U) → ks.length ≤ U.length
  | [], _, _, _ => Nat.zero_le _
  | k :: ks, U, nd, h => by
    have hn := List.nodup_cons.mp nd
    have hk := h k List.mem_cons_self
    have ih := kL ks (U.erase k) hn.2 fun x hx => (List.mem_erase_of_ne (fun e => hn.1 (by rw [← e]; exact hx))).mpr (h x (List.mem_cons_of_mem _ hx))
    rw [List.length_erase_of_mem hk] at ih
    have := List.length_pos_of_mem hk
    rw [List.length_cons]
    omega
noncomputable def gK (step : κ → Nat → κ) (met : κ) (w : Str) (st : List κ × List Str) (a : Nat) : List κ × List Str := if step met a ∈ st.1 then st else (st.1 ++ [step met a], st.2 ++ [w ++ qV a])
noncomputable def visit (step : κ → Nat → κ) (met : κ) (w : Str) (n : Nat) (st : List κ × List Str) : List κ × List Str := (List.range n).foldl (gK step met w) st
noncomputable def kM (step : κ → Nat → κ) (n most : Nat) : Nat → Nat → List κ × List Str → List κ × List Str
  | 0, _, st => st
  | fuel + 1, i, st => match st.1[i]?, st.2[i]? with
    | some met, some w => if st.1.length ≤ most then kM step n most fuel (i + 1) (visit step met w n st) else st
    | _, _ => st
structure eA (U : List κ) (st : List κ × List Str) : Prop where
  len : st.1.length = st.2.length
  nd : st.1.Nodup
  sub : ∀ k ∈ st.1, k ∈ U
  wl : ∀ (i : Nat) (w : Str), st.2[i]? = some w → w.length ≤ i
theorem eA.le {U : List κ} {st : List κ × List Str} (o : eA U st) : st.1.length ≤ U.length := kL _ _ o.nd o.sub
theorem iC (step : κ → Nat → κ) (met : κ) (w : Str) (n : Nat) (st : List κ × List Str) : visit step met w (n + 1) st = gK step met w (visit step met w n st) n := by
  unfold visit
  rw [List.range_succ, List.foldl_append]
  rfl
theorem zL (step : κ → Nat → κ) (met : κ) (w : Str) (st : List κ × List Str) (a : Nat) : ∃ ks ws, (gK step met w st a).1 = st.1 ++ ks ∧ (gK step met w st a).2 = st.2 ++ ws := by
  unfold gK
  split
  · exact ⟨[], [], by simp, by simp⟩
  · exact ⟨_, _, rfl, rfl⟩
theorem gq (step : κ → Nat → κ) (met : κ) (w : Str) (n : Nat) (st : List κ × List Str) : ∃ ks ws, (visit step met w n st).1 = st.1 ++ ks ∧ (visit step met w n st).2 = st.2 ++ ws := by
  induction n with
  | zero => exact ⟨[], [], by simp [visit], by simp [visit]⟩
  | succ n ih =>
    obtain ⟨ks, ws, h1, h2⟩ := ih
    rw [iC]
    obtain ⟨Kq, N6, h3, h4⟩ := zL step met w (visit step met w n st) n
    exact ⟨ks ++ Kq, ws ++ N6, by rw [h3, h1, List.append_assoc], by rw [h4, h2, List.append_assoc]⟩
theorem mD {α : Type} {l m : List α} {i : Nat} {x : α} (h : l[i]? = some x) : (l ++ m)[i]? = some x := by
  rw [List.getElem?_append_left (List.getElem?_eq_some_iff.mp h).1]; exact h
theorem eA.gK {U : List κ} {step : κ → Nat → κ} {st : List κ × List Str} (o : eA U st) {i a : Nat} {met : κ} {w : Str} (hw : st.2[i]? = some w) (hs : step met a ∈ U) : eA U (L2.gK step met w st a) := by
  unfold L2.gK
  split
  · exact o
  · rename_i hn
    refine ⟨by simp [o.len], ?_, fun k hk => ?_, fun j v hj => ?_⟩
    · rw [List.nodup_append]
      refine ⟨o.nd, by simp, fun x hx y hy e => ?_⟩
      rw [List.mem_singleton] at hy
      subst e
      exact hn (hy ▸ hx)
    · rcases List.mem_append.mp hk with z | z
      · exact o.sub k z
      · rw [List.mem_singleton] at z; rw [z]; exact hs
    · by_cases h : j < st.2.length
      · rw [List.getElem?_append_left h] at hj
        exact o.wl j v hj
      · rw [List.getElem?_append_right (by omega)] at hj
        have e : j - st.2.length = 0 := by
          have := (List.getElem?_eq_some_iff.mp hj).1
          simp at this; omega
        rw [e] at hj
        cases hj
        have h1 := o.wl i w hw
        have h2 := (List.getElem?_eq_some_iff.mp hw).1
        rw [w5, pP]
        omega
theorem eA.visit {U : List κ} {step : κ → Nat → κ} {st : List κ × List Str} (o : eA U st) {i n : Nat} {met : κ} {w : Str} (hw : st.2[i]? = some w) (hs : ∀ a, a < n → step met a ∈ U) : eA U (L2.visit step met w n st) := by
  induction n with
  | zero => exact o
  | succ n ih =>
    rw [iC]
    obtain ⟨ks, ws, h1, h2⟩ := gq step met w n st
    exact (ih fun a ha => hs a (by omega)).gK (i := i) (by rw [h2]; exact mD hw) (hs n (by omega))
noncomputable def met (step : κ → Nat → κ) (n most N : Nat) (s : κ) : List κ × List Str := kM step n most (N + 1) 0 ([s], [""])
theorem lK {U : List κ} {s : κ} (h : s ∈ U) : eA U ([s], [("" : Str)]) := ⟨rfl, by simp, fun k hk => by rw [List.mem_singleton] at hk; rw [hk]; exact h, fun i w e => by
  cases i with
  | zero => cases e; exact Nat.le_refl 0
  | succ i => simp at e⟩
theorem zM {U : List κ} {step : κ → Nat → κ} {n most : Nat} (hs : ∀ k ∈ U, ∀ a, a < n → step k a ∈ U) : ∀ (fuel i : Nat) (st : List κ × List Str), eA U st → eA U (kM step n most fuel i st)
  | 0, _, st, o => o
  | fuel + 1, i, st, o => by
    unfold kM
    split
    · rename_i k w h1 h2
      split
      · exact zM hs fuel (i + 1) _ (o.visit h2 fun a ha => hs k (o.sub k (List.mem_of_getElem? h1)) a ha)
      · exact o
    · exact o
theorem zN {step : κ → Nat → κ} {n most fuel i : Nat} {st : List κ × List Str} {k : κ} {w : Str} (h1 : st.1[i]? = some k) (h2 : st.2[i]? = some w) (h3 : st.1.length ≤ most) : kM step n most (fuel + 1) i st = kM step n most fuel (i + 1) (visit step k w n st) := by
  rw [kM]
  simp only [h1, h2, if_pos h3]
theorem vy : ∀ {ks : List κ} {ws : List Str} {i : Nat} {k : κ} {w : Str}, ks.Nodup → ks[i]? = some k → ws[i]? = some w → look ks ws k = some w
  | [], _, _, _, _, _, h, _ => by simp at h
  | _ :: _, [], _, _, _, _, _, h => by simp at h
  | c :: ks, v :: ws, 0, k, w, _, h1, h2 => by
    simp at h1 h2
    unfold look
    rw [if_pos h1, h2]
  | c :: ks, v :: ws, i + 1, k, w, nd, h1, h2 => by
    have hn := List.nodup_cons.mp nd
    have h1 : ks[i]? = some k := by simpa using h1
    unfold look
    rw [if_neg (fun e => hn.1 (by rw [e]; exact List.mem_of_getElem? h1))]
    exact vy hn.2 h1 (by simpa using h2)
theorem tP {CM : Type} [DecidableEq CM] {f : κ → CM} (hf : ∀ a b, f a = f b → a = b) (x : κ) : ∀ (ks : List κ) (ws : List Str), look (ks.map f) (ws.map Dv.str) (f x) = (look ks ws x).map Dv.str
  | [], ws => by cases ws <;> rfl
  | _ :: _, [] => rfl
  | k :: ks, w :: ws => by
    rw [List.map_cons, List.map_cons]
    unfold look
    by_cases e : k = x
    · rw [if_pos e, if_pos (by rw [e])]; rfl
    · rw [if_neg e, if_neg (fun z => e (hf _ _ z))]
      exact tP hf x ks ws
theorem vz {α : Type} {ks : List κ} {ds : List α} {k : κ} {d : α} (h : k ∉ ks) : putL ks k = ks ++ [k] ∧ fJ ks ds k d = ds ++ [d] := by
  unfold putL fJ
  rw [if_neg h, if_neg h]
  exact ⟨rfl, rfl⟩
theorem jK {CM : Type} {f : κ → CM} (hf : ∀ a b, f a = f b → a = b) {x : κ} {ks : List κ} : f x ∈ ks.map f ↔ x ∈ ks := by
  constructor
  · intro h
    obtain ⟨y, hy, e⟩ := List.mem_map.mp h
    rw [← hf _ _ e]; exact hy
  · exact fun h => List.mem_map_of_mem h
theorem zO {ks : List κ} {ws : List Str} (h : ks.length = ws.length) (x : κ) : (look ks ws x).isSome = decide (x ∈ ks) := by
  cases q : look ks ws x with
  | none => rw [decide_eq_false ((fW h).mp q)]; rfl
  | some w =>
    have : x ∈ ks := Classical.byContradiction fun z => by rw [(fW h).mpr z] at q; cases q
    rw [decide_eq_true this]; rfl
end
theorem vA {k : Nat} (h : k < 3) : cZ ("abc" : Str).cps.toList ((k : Nat) : Int) = some (97 + k) := by
  have : k = 0 ∨ k = 1 ∨ k = 2 := by omega
  rcases this with rfl | rfl | rfl <;> decide +kernel
theorem ku {α : Type} {l : List α} {i : Nat} {x : α} (h : l[i]? = some x) : l.drop i = x :: l.drop (i + 1) := by
  obtain ⟨hi, e⟩ := List.getElem?_eq_some_iff.mp h
  rw [List.drop_eq_getElem_cons hi, e]
section
variable {κ α : Type} [DecidableEq κ]
theorem w6 {ks : List κ} {ws : List α} (h : ks.length = ws.length) (x : κ) : (look ks ws x).isSome = decide (x ∈ ks) := by
  have := fW (x := x) h
  cases e : look ks ws x with
  | none => rw [decide_eq_false (this.mp e)]; rfl
  | some d => rw [decide_eq_true (Classical.byContradiction fun q => by rw [this.mpr q] at e; cases e)]; rfl
end
end L2
open PySem L2 PyProof.Rows
local macro_rules | `(tactic| simp! only [$xs,*] $[$l]?) => `(tactic| simp only [zVar, zC, zOp, zII, zIC, zEq, zNe, scalZ, zIsN, isNonD, zSS, zTest, zBool, zChain, zAnd, zOr, zNot, zAndV, zNotV, zNil, zCons, zTup, zLst, zLstP, zCB, z1, zLenD, z2I, zAbs, zList, zTuple, zSorted, zSet, intsM, itemsM, zIsInst, isD, zBM, tyZ, zAppend, zPop, zPopAt, zSetI, zgSub, zNext, zSeq, zDrop, zRet, zIfS, zgName, zgNil, zgCons, zgTup, zAsg, zFor, zForM, zComp, zCompP, zAll, zSetC, zBlock, zCall, zRaise, zstart, zEndsOf, ziTup, ziLst, ziRng1, ziRng2, ziEnumK, ziKeys, ziItems, zIx, zRangeP, zTruth, truD, zNoIf, zGetR, zDIn, lookD, nowK, keyD, zDisp1K, zDisp1T, zDPut, zLenT, zCatLP, zIxS, zCallL, List.getElem?_cons_zero, List.getElem?_cons_succ, List.map_cons, List.map_nil, List.nil_append, List.cons_append, List.length_cons, List.length_nil, List.replicate_succ, List.replicate_zero, List.set_cons_zero, List.set_cons_succ, Option.join_some, Nat.reduceAdd, Nat.reduceSub, Nat.sub_self, Nat.zero_add, if_true, if_false, Bool.false_eq_true, Bool.not_true, Bool.not_false, true_and, and_true, beq_self_eq_true, String.reduceBEq, zLoop, List.length_map, List.length_set, updM_same, updM_updM, List.append_nil, Int.zero_add, Int.toNat_natCast, rangeD_len, pairsD_len, Nat.min_self, atI_zero, decide_true, decide_false, Bool.not_eq_true, bne_self_eq_false, $xs,*] $[$l]?)
local macro_rules | `(tactic| dsimp! only [$xs,*] $[$l]?) => `(tactic| simp only [zVar, zC, zOp, zII, zIC, zEq, zNe, scalZ, zIsN, isNonD, zSS, zTest, zBool, zChain, zAnd, zOr, zNot, zAndV, zNotV, zNil, zCons, zTup, zLst, zLstP, zCB, z1, zLenD, z2I, zAbs, zList, zTuple, zSorted, zSet, intsM, itemsM, zIsInst, isD, zBM, tyZ, zAppend, zPop, zPopAt, zSetI, zgSub, zNext, zSeq, zDrop, zRet, zIfS, zgName, zgNil, zgCons, zgTup, zAsg, zFor, zForM, zComp, zCompP, zAll, zSetC, zBlock, zCall, zRaise, zstart, zEndsOf, ziTup, ziLst, ziRng1, ziRng2, ziEnumK, ziKeys, ziItems, zIx, zRangeP, zTruth, truD, zNoIf, zGetR, zDIn, lookD, nowK, keyD, zDisp1K, zDisp1T, zDPut, zLenT, zCatLP, zIxS, zCallL, List.getElem?_cons_zero, List.getElem?_cons_succ, List.map_cons, List.map_nil, List.nil_append, List.cons_append, List.length_cons, List.length_nil, List.replicate_succ, List.replicate_zero, List.set_cons_zero, List.set_cons_succ, Option.join_some, Nat.reduceAdd, Nat.reduceSub, Nat.sub_self, Nat.zero_add, if_true, if_false, Bool.false_eq_true, Bool.not_true, Bool.not_false, true_and, and_true, beq_self_eq_true, String.reduceBEq, List.length_map, List.length_set, updM_same, updM_updM, List.append_nil, Int.zero_add, Int.toNat_natCast, rangeD_len, pairsD_len, Nat.min_self, atI_zero, decide_true, decide_false, Bool.not_eq_true, bne_self_eq_false, $xs,*] $[$l]?)
namespace My
open PySem L2 PyProof.Rows
noncomputable def top (i : Nat) : Stmt := PySem.Challenge.pw_roadcall_k34_shortest_of_sets.main.body.getD i (.Pass ⟨0, 0, 0, 0⟩)
noncomputable abbrev dg : Stmt := top 5
noncomputable abbrev bL : Stmt := top 6
noncomputable abbrev jh : Stmt := top 10
noncomputable abbrev ji : Stmt := top 11
noncomputable abbrev iD : Stmt := top 12
noncomputable abbrev iE : Stmt := top 13
noncomputable abbrev gT : Stmt := top 16
noncomputable abbrev jj : Stmt := top 18
noncomputable abbrev iF : Stmt := top 19
noncomputable abbrev dE : Stmt := top 20
noncomputable abbrev aC : Stmt := top 21
noncomputable abbrev gr : Stmt := top 22
noncomputable abbrev iG : Stmt := top 24
noncomputable abbrev iH : Stmt := top 26
noncomputable abbrev d7 : Stmt := top 27
noncomputable abbrev eS : Stmt := top 28
noncomputable abbrev bV : Stmt := top 29
noncomputable abbrev dF : Stmt := top 30
noncomputable abbrev iI : Stmt := top 31
noncomputable abbrev iJ : Stmt := top 32
noncomputable abbrev gu : Stmt := top 33
noncomputable abbrev rL : Stmt := top 34
section
variable {P : Program} {w : World} {K : PySem.W.Frag} {mg : Str → Option Value} {base : Heap} {tb : cG} {k : Nat} {f : Addr} {fd : FuncData} {ps : List Str}
theorem dq : aQ ["_law_script", "_law_at", "_law_cell", "_law_mix", "_law_k"] ["_law_script", "_law_at"] (ai iH) := ⟨rfl, rfl, rfl, by decide +kernel, rfl, by decide +kernel, by decide +kernel⟩
theorem dG : aQ ["_law_bag_here", "_law_many", "_law_digit", "_law_number", "_law_room"] ["_law_bag_here", "_law_many"] (ai d7) := ⟨rfl, rfl, rfl, by decide +kernel, rfl, by decide +kernel, by decide +kernel⟩
theorem kN : aQ ["_law_bag_here", "_law_many", "_law_free"] ["_law_bag_here", "_law_many"] (ai eS) := ⟨rfl, rfl, rfl, by decide +kernel, rfl, by decide +kernel, by decide +kernel⟩
theorem bg : aQ ["_law_bag_here", "_law_most", "_law_many", "_law_ways", "_law_kind", "_law_rows", "_law_order_here", "_law_period", "_law_stays", "_law_k", "_law_place", "_law_onward", "_law_goals", "_law_turns"] ["_law_bag_here", "_law_most"] (ai bV) := ⟨rfl, rfl, rfl, by decide +kernel, rfl, by decide +kernel, by decide +kernel⟩
noncomputable def Hv : cJ := fun ds M Q _ => ∃ (ns : List Int) (t : Int), ds = [.bh ns, .int t] ∧ ns.length ≤ 63 ∧ 0 ≤ t ∧ t ≤ 63 ∧ ∀ b, M b = none → Q (.ptr b) (ax M b .cF)
noncomputable def CN : cJ := fun ds M Q _ => ∃ (ns : List Int) (t : Int), ds = [.bh ns, .int t] ∧ ns.length ≤ 63 ∧ 0 ≤ t ∧ t ≤ 63 ∧ ∀ b c m, M b = none → 0 ≤ c → 0 ≤ m → Q (.ptr b) (ax M b (.lst [.int c, .int m]))
theorem w9 (D : Df K mg "_law_bag" iH ["_law_script", "_law_at"] f fd) (bl : Bl mg) : FnOk P w K mg base bf 1 f fd ["_law_script", "_law_at"] (bj P w K tb CN) := by
  refine eh D dq (fun ds M Q E hS => by obtain ⟨ns, t, e, _⟩ := hS; rw [e]; rfl) fun A outer s E Γ ds Q' E' hP hw hK ht hr hS => ?_
  obtain ⟨ns, t, e, hl, t0, t1, q⟩ := hS
  refine ⟨_, (ao (aO (i := 2) dq.nd rfl (Or.inl rfl) av)
    (ao (cw (aW nv (qv 1) (aG (de (K := K) rfl hK) rfl bl.len_ PySem.boot_len (aa (qv 0) ah)) (bw _))
      (aw (aO (i := 2) dq.nd rfl (Or.inl rfl) (aG Jj rfl bl.abs_ FY (aa (bN (CL (K := K) rfl hK) (qv 0) (qv 1) (fun _ _ => rfl)) ah))))
      qss_nil)
    (ao (aO (i := 3) dq.nd rfl (Or.inl rfl) (aR fy (aR mw av (qv 1)) av))
    (ao (fu PassesOwn.never rfl (bH rfl bl.range_ (aa (aG (zk rfl) rfl bl.min_ yw (aa (aG (de (K := K) rfl hK) rfl bl.len_ PySem.boot_len (aa (qv 0) ah)) (aa av ah))) ah)) (fun oV eP ew eK et => by have hP := hP.trans eP.symm; have hw := hw.trans ew.symm; have hK := hK.trans eK.symm; have ht := ht.trans et.symm; exact ⟨(aM (i := 4) dq.nd rfl (Or.inl rfl)), (aw (aO (i := 3) dq.nd rfl (Or.inl rfl) (aR iA (aR fy (aR fy (aR mw (qv 3) av) (aR iA (bN (CL (K := K) rfl hK) (qv 0) (qv 4) (fun _ _ => rfl)) av)) (qv 4)) av)))⟩))
    (ao (cw (aW nv (qv 2) (aR Jf av av) (bw _))
      (aw (aO (i := 2) dq.nd rfl (Or.inl rfl) av))
      qss_nil)
    (aw (aX (pF (aa (qv 2) (aa (qv 3) ah)))))))))), ?_⟩
  subst e
  refine Jp (fun ρ M => M = Γ.M0 ∧ ∃ c m x : Int, ∃ x4, 0 ≤ c ∧ 0 ≤ m ∧ ρ = [some (.bh ns), some (.int t), some (.int c), some (.int m), x4]) (fun N hN => ?_) ?_
  · refine Jo (fun ρ M => M = Γ.M0 ∧ ∃ c : Int, 0 ≤ c ∧ ρ = [some (.bh ns), some (.int t), some (.int c), none, none]) (fun N hN => ?_) ?_
    · simp! only []
      refine c4 (fun h => ?_) (fun _ => hN _ _ ⟨rfl, 0, by omega, rfl⟩)
      have ht : t < (ns.length : Int) := of_decide_eq_true h
      obtain ⟨k, rfl⟩ := Int.eq_ofNat_of_zero_le t0
      rw [zo (show k < ns.length by omega)]
      exact hN _ _ ⟨rfl, _, by split <;> omega, rfl⟩
    rintro ρ M ⟨rfl, c, hc, rfl⟩
    simp! only []
    refine ⟨.inl ⟨by decide, by decide⟩, by split <;> omega, by split <;> omega, ?_⟩
    refine da (fun i ρ M => M = Γ.M0 ∧ ∃ m : Int, ∃ x4, 0 ≤ m ∧ ρ = [some (.bh ns), some (.int t), some (.int c), some (.int m), x4]) ⟨rfl, _, _, by omega, rfl⟩ (fun i d ρ M N2 hd hJ oW => ?_) (fun ρ M hJ => ?_)
    · obtain ⟨rfl, m, x4, hm, rfl⟩ := hJ
      obtain ⟨rfl, hi⟩ := eR hd
      have hi : i < ns.length := by split at hi <;> omega
      simp! only [zo hi]
      exact ⟨.inr ⟨by decide, by decide⟩, by decide, by decide, oW _ _ ⟨rfl, _, _, Int.emod_nonneg _ (by decide), rfl⟩⟩
    · obtain ⟨rfl, m, x4, hm, rfl⟩ := hJ
      exact hN _ _ ⟨rfl, c, m, 0, x4, hc, hm, rfl⟩
  · rintro ρ M ⟨rfl, c, m, x, x4, hc, hm, rfl⟩
    simp! only []
    exact ⟨⟨by decide, by decide, by decide⟩, c4 (fun _ => ⟨by decide, fun a ha => .inl (q a 0 m ha (by omega) hm)⟩) (fun _ => ⟨by decide, fun a ha => .inl (q a c m ha hc hm)⟩)⟩
theorem Jt (G : FnOk P w K mg base bf k f fd ps (bj P w K tb CN)) : FnOk P w K mg base bf k f fd ps (bj P w K tb Hv) := G.imp fun vs H Q E hS => by
  obtain ⟨β, ds, M, Q', E', eP, ew, eK, et, m, rs, ⟨ns, t, e, h1, h2, h3, h⟩, q, qe⟩ := hS
  refine ⟨β, ds, M, fun d M' => ∃ b c m, d = .ptr b ∧ M b = none ∧ 0 ≤ c ∧ 0 ≤ m ∧ M' = ax M b (.lst [.int c, .int m]), fun _ _ => False, eP, ew, eK, et, m, rs, ⟨ns, t, e, h1, h2, h3, fun b c m h4 h5 h6 => ⟨b, c, m, rfl, h4, h5, h6, rfl⟩⟩, fun d M' v H' x r hQ => ?_, fun _ _ _ _ h => h.elim⟩
  obtain ⟨b, c, m', rfl, hb, hc, hm, rfl⟩ := hQ
  have hB := zK x.mz hc hm
  exact q _ _ _ _ (Ex.sealed hb x hB) (r.dom (iN M b _ _)) (h b hb)
noncomputable def mE : cJ := fun ds M Q _ => ∃ (b : Addr) (n : Int), ds = [.ptr b, .int n] ∧ M b = some .cF ∧ 1 ≤ n ∧ n < 1073741824 ∧ ∀ d : Nat, (d : Int) < n → Q (.int (d : Nat)) M
noncomputable def zP : cJ := fun ds M Q _ => ∃ (b : Addr) (n c m : Int), ds = [.ptr b, .int n] ∧ M b = some (.lst [.int c, .int m]) ∧ 0 ≤ c ∧ 0 ≤ m ∧ 1 ≤ n ∧ n < 1073741824 ∧ ∀ (d : Nat) (c m : Int), (d : Int) < n → 0 ≤ c → 0 ≤ m → Q (.int (d : Nat)) (ax M b (.lst [.int c, .int m]))
theorem uz (D : Df K mg "_law_take" d7 ["_law_bag_here", "_law_many"] f fd) : FnOk P w K mg base bf 1 f fd ["_law_bag_here", "_law_many"] (bj P w K tb zP) := by
  refine eh D dG (fun ds M Q E hS => by obtain ⟨b, n, c, m, e, _⟩ := hS; rw [e]; rfl) fun A outer s E Γ ds Q' E' hP hw hK ht hr hS => ?_
  obtain ⟨b, n, c, m, e, hb, hc, hm, n1, n2, q⟩ := hS
  refine ⟨_, (ao (cw (aW LN (bN (c6 (K := K) rfl) (qv 0) av (fun _ _ => rfl)) av (bw _))
      (ao (aO (i := 2) dG.nd rfl (Or.inl rfl) (aR iA (bN (c6 (K := K) rfl) (qv 0) av (fun _ _ => rfl)) (qv 1)))
    (ao (i9 (aR zg (bN (c6 (K := K) rfl) (qv 0) av (fun _ _ => rfl)) (qv 1)) (j4 (qv 0) av))
    (aw (aX (qv 2)))))
      qss_nil)
    (ao (aO (i := 3) dG.nd rfl (Or.inl rfl) av)
    (ao (aO (i := 4) dG.nd rfl (Or.inl rfl) av)
    (ao (nu PassesOwn.never (aW nv (qv 4) (qv 1) (bw _))
      (ao (i9 (aR iA (aR fy (aR mw (bN (c6 (K := K) rfl) (qv 0) av (fun _ _ => rfl)) av) av) av) (j4 (qv 0) av))
    (ao (aO (i := 3) dG.nd rfl (Or.inl rfl) (aR fy (aR mw (qv 3) av) (aR iA (aR mw (aR zg (bN (c6 (K := K) rfl) (qv 0) av (fun _ _ => rfl)) av) av) av)))
    (aw (aO (i := 4) dG.nd rfl (Or.inl rfl) (aR mw (qv 4) av))))))
    (aw (aX (aR iA (qv 3) (qv 1)))))))), ?_⟩
  subst e
  have N7 : ∀ x y : Int, cZ [Dv.int x, Dv.int y] 1 = some (.int y) := fun x y => dB (j := 1) rfl
  have N8 : gW 2 0 = some 0 := rfl
  have N9 : gW 2 1 = some 1 := rfl
  have fin : ∀ {i c m : Int} {M : Mh}, 0 ≤ c → 0 ≤ m → M = ax Γ.M0 b (.lst [.int c, .int m]) → jb Γ.M0 Q' (.int (i % n)) M := fun {i c m M} hc hm e => by
    obtain ⟨d, hd⟩ := Int.eq_ofNat_of_zero_le (Int.emod_nonneg i (show n ≠ 0 by omega))
    have := Int.emod_lt_of_pos i (show 0 < n by omega)
    rw [hd, e]
    exact .inl (q d c m (by omega) hc hm)
  simp! only [hb, N8]
  refine c4 (fun h => ?_) (fun h => ?_)
  · refine ⟨by omega, ⟨by omega, n2⟩, fin (Int.ediv_nonneg hc (by omega)) hm rfl⟩
  · refine ⟨fun k ρ M => ∃ num room c m x2, 0 ≤ num ∧ 1 ≤ room ∧ 0 ≤ c ∧ 0 ≤ m ∧ k = (n - room).toNat ∧ ρ = [some (.ptr b), some (.int n), x2, some (.int num), some (.int room)] ∧ M = ax Γ.M0 b (.lst [.int c, .int m]), ⟨_, 0, 1, c, m, _, by omega, by omega, hc, hm, rfl, rfl, (vw hb).symm⟩, ?_⟩
    rintro k ρ M ⟨num, room, c, m, x2, h1, h2, hc, hm, rfl, rfl, rfl⟩
    simp! only [N7, N9, updM_same]
    refine c4 (fun h => ?_) (fun h => ⟨by omega, fin hc hm rfl⟩)
    have h := of_decide_eq_true h
    have m3 : 0 ≤ (m * 48271 + 7919) % 2147483647 := Int.emod_nonneg _ (by decide)
    have n3 : 0 ≤ (m * 48271 + 7919) % 2147483647 / 8 * 69621 % 1073741789 := Int.emod_nonneg _ (by decide)
    refine ⟨.inr ⟨by decide, by decide⟩, by decide, .inr ⟨by decide, by decide⟩, ⟨by decide, by decide⟩, .inr ⟨by decide, by decide⟩, by decide, .inr ⟨by decide, by decide⟩, _, ?_, _, _, c, _, _, ?_, ?_, hc, m3, rfl, rfl, rfl⟩ <;> omega
theorem Hw (G : FnOk P w K mg base bf k f fd ps (bj P w K tb zP)) : FnOk P w K mg base bf k f fd ps (bj P w K tb mE) := G.imp fun vs H Q E hS => by
  obtain ⟨β, ds, M, Q', E', eP, ew, eK, et, m, rs, ⟨b, n, e, hb, h1, h2, h⟩, q, qe⟩ := hS
  have eM := vw hb
  have d1 : ∀ o a, (M a).isSome = (ax M b o a).isSome := fun o a => by have := iN M b .cF o a; rwa [eM] at this
  rw [← eM] at m
  obtain ⟨c, m0, hc, hm, hO⟩ := Hu m
  refine ⟨β, ds, ax M b (.lst [.int c, .int m0]), fun d M' => ∃ (k : Nat) (c' m' : Int), d = .int (k : Nat) ∧ (k : Int) < n ∧ 0 ≤ c' ∧ 0 ≤ m' ∧ M' = ax M b (.lst [.int c', .int m']), fun _ _ => False, eP, ew, eK, et, m.chg hO, ⟨rs.len, fun i v d x y => (rs.at' i v d x y).dom (d1 _)⟩, ⟨b, n, c, m0, e, updM_same, hc, hm, h1, h2, fun d c' m' h3 h4 h5 => ⟨d, c', m', rfl, h3, h4, h5, updM_updM⟩⟩, fun d M' v H' x r hQ => ?_, fun _ _ _ _ h => h.elim⟩
  obtain ⟨k, c', m', rfl, hk, B5, kZ, rfl⟩ := hQ
  have hB := zK x.mz B5 kZ
  have x2 := Ex.chg (o2 := .cF) x hB
  rw [eM] at x2
  exact q _ _ _ _ x2 (r.dom fun a => (d1 _ a).symm) (h k hk)
theorem qW {α β : Type} (f : α → β) : ∀ (l : List α) (i : Nat), (l.map f).eraseIdx i = (l.eraseIdx i).map f
  | [], _ => rfl
  | _ :: _, 0 => rfl
  | a :: l, i + 1 => by
    show f a :: (l.map f).eraseIdx i = f a :: (l.eraseIdx i).map f
    rw [qW f l i]
theorem eW {α : Type} : ∀ (l : List α) (i : Nat) (h : i < l.length), (l[i] :: l.eraseIdx i).Perm l
  | a :: l, 0, _ => .refl _
  | a :: l, i + 1, h => by
    have h' : i < l.length := by simpa using h
    show (l[i] :: a :: l.eraseIdx i).Perm (a :: l)
    exact (List.Perm.swap a l[i] _).trans ((eW l i h').cons a)
structure d8 (n : Nat) (os : List Int) : Prop where
  perm : os.Perm ((List.range n).map fun i : Nat => (i : Int))
theorem d8.len {n : Nat} {os : List Int} (h : d8 n os) : os.length = n := by
  have := h.perm.length_eq
  simpa using this
theorem d8.mem {n : Nat} {os : List Int} (h : d8 n os) {x : Int} (hx : x ∈ os) : 0 ≤ x ∧ x < n := by
  have := h.perm.mem_iff.mp hx
  obtain ⟨i, hi, rfl⟩ := List.mem_map.mp this
  have := List.mem_range.mp hi
  omega
theorem d8.at {n : Nat} {os : List Int} (h : d8 n os) {i : Nat} (hi : i < n) : ∃ x : Int, cZ (os.map Dv.int) (i : Int) = some (.int x) ∧ 0 ≤ x ∧ x < n := by
  have hl : i < os.length := by rw [h.len]; exact hi
  exact ⟨os[i], dB (by rw [List.getElem?_map, List.getElem?_eq_getElem hl]; rfl), h.mem (List.getElem_mem hl)⟩
noncomputable def zQ : cJ := fun ds M Q _ => ∃ (b : Addr) (n : Nat), ds = [.ptr b, .int (n : Nat)] ∧ M b = some .cF ∧ n ≤ 100 ∧ ∀ os, d8 n os → Q (jA os) M
noncomputable def CO : cJ := fun ds M Q _ => ∃ (b : Addr) (most : Nat), ds = [.ptr b, .int (most : Nat)] ∧ M b = some .cF ∧ 1 ≤ most ∧ most ≤ 9 ∧ ∀ af n, eu af n → af.length ≤ most → Q (eN af) M
theorem D8 {n d : Nat} (h : d < n) : seqIndex? (d : Int) n = some d := (pj (n := n) (i := (d : Int)) (j := d) (by unfold gW; rw [if_pos (by omega), if_pos (by omega)]; rfl)).1
theorem tQ {f1 : Addr} {bI : FuncData} (D : Df K mg "_law_order" eS ["_law_bag_here", "_law_many"] f fd)
    (aj : Df K mg "_law_take" d7 ["_law_bag_here", "_law_many"] f1 bI) (a9 : FnOk P w K mg base bf 1 f1 bI ["_law_bag_here", "_law_many"] (bj P w K tb mE)) (bl : Bl mg) : FnOk P w K mg base bf 2 f fd ["_law_bag_here", "_law_many"] (bj P w K tb zQ) := by
  refine eh D kN (fun ds M Q E hS => by obtain ⟨b, n, e, _⟩ := hS; rw [e]; rfl) fun A outer s E Γ ds Q' E' hP hw hK ht hr hS => ?_
  obtain ⟨b, n, e, hb, hn, q⟩ := hS
  refine ⟨_, (ao (aO (i := 2) kN.nd rfl (Or.inr rfl) (rn rfl rfl bl.list_ rfl bl.range_ (qv 1)))
    (aw (aX (dj (N' := ["_law_k", "_law_free", "_law_bag_here", "_law_many"]) (tn := 1) (idx := [2, 0, 1]) rfl (show aE ["_law_bag_here", "_law_many", "_law_free"] (ai eS) _ ["_law_k", "_law_free", "_law_bag_here", "_law_many"] 1 [2, 0, 1] from by decide +kernel) (bH rfl bl.range_ (aa (qv 1) ah)) (fun _ _ _ _ _ => (aM (i := 0) (show List.Nodup [("_law_k" : Str), ("_law_free" : Str), ("_law_bag_here" : Str), ("_law_many" : Str)] from by decide +kernel) rfl (Or.inl rfl))) (fun _ _ _ _ _ => cI) (fun _ _ _ _ _ => (rJ (K := K) rfl PySem.F.plainAttrs_list PySem.F.slot_list_pop PySem.F.type_list_pop vf (qv 1) (aa (aI a9 (hr.mono (by decide)) rfl aj.mg aj.fn.kp aj.bd bb hP hw hK ht XR.none (aa (qv 2) (aa (aR wF (qv 3) (qv 0)) ah))) ah))))))), ?_⟩
  subst e
  simp! only []
  refine ⟨by omega, by omega, fun a ha => ⟨by omega, by omega, ?_⟩⟩
  have Oa : b ≠ a := fun z => by rw [z, ha] at hb; cases hb
  refine ⟨Nat.lt_of_le_of_lt hn (by decide), fL (acc := []) (fun acc τ M => ∃ rest got : List Int, acc = got.map Dv.int ∧ (∃ x, τ = [x, some (.ptr a), some (.ptr b), some (.int (n : Nat))]) ∧ M a = some (.lst (rest.map .int)) ∧ (∀ c, c ≠ a → M c = Γ.M0 c) ∧ (got ++ rest).Perm ((List.range n).map fun i : Nat => (i : Int))) ⟨(List.range n).map fun i : Nat => (i : Int), [], rfl, ⟨_, rfl⟩, by rw [updM_same, jd, List.map_map]; rfl, fun c hc => ak hc, .refl _⟩ (fun i d acc τ M hd hl ⟨rest, got, e1, ⟨x, e2⟩, h1, h2, h3⟩ R hR => ?_) (fun ys τ M hl ⟨rest, got, e1, ⟨x, e2⟩, h1, h2, h3⟩ => ?_)⟩
  · subst e1 e2
    obtain ⟨rfl, hi⟩ := eR hd
    have hlen : got.length + rest.length = n := by have := h3.length_eq; simpa using this
    have hl : got.length = i := by simpa using hl
    simp! only []
    refine ⟨by rw [h1]; trivial, b, _, rfl, (by rw [h2 b Oa]; exact hb), by omega, by omega, fun d hd => ?_⟩
    have qA : d < rest.length := by omega
    simp only [h1, List.length_map, D8 qA, List.getElem?_map, List.getElem?_eq_getElem qA, Option.map_some]
    refine ⟨by omega, by omega, hR _ _ _ ⟨rest.eraseIdx d, got ++ [rest[d]], by rw [List.map_append]; rfl, ⟨_, rfl⟩, by rw [updM_same, qW], fun c hc => by rw [ak hc]; exact h2 c hc, ?_⟩⟩
    refine List.Perm.trans ?_ h3
    rw [List.append_assoc]
    exact List.Perm.append_left got (eW rest d qA)
  · simp only [List.nil_append] at e1
    subst e1
    have hlen : got.length + rest.length = n := by have := h3.length_eq; simpa using this
    have hl : got.length = n := by simpa [rangeD_len] using hl
    have zR : rest = [] := List.eq_nil_of_length_eq_zero (by omega)
    rw [zR, List.append_nil] at h3
    exact qO (fun c o e => by rw [h2 c (fun z => by rw [z, ha] at e; cases e)]; exact e) (.lst (gI _)) (q got ⟨h3⟩)
end
section
variable {P : Program} {w : World} {K : PySem.W.Frag} {mg : Str → Option Value} {base : Heap} {tb : cG}
noncomputable def eZ (n ways : Nat) (row : List Int) : Prop := row.length = ways ∧ ∀ x ∈ row, 0 ≤ x ∧ x < (n : Int)
structure cK (M0 M : Mh) (r : Addr) (as : List Addr) (n ways : Nat) : Prop where
  kp : Keeps M0 M
  r0 : M0 r = none
  rm : M r = some (.lst (as.map .ptr))
  fr : ∀ a ∈ as, M0 a = none ∧ a ≠ r
  len : as.length = n
  row : ∀ a ∈ as, ∃ row : List Int, M a = some (.lst (row.map .int)) ∧ eZ n ways row
  pin : ∀ b o, M b = some o → M0 b = some o ∨ b = r ∨ (∃ row : List Int, o = .lst (row.map .int)) ∨ ∃ bs : List Addr, o = .lst (bs.map .ptr) ∧ ∀ c ∈ bs, c ≠ r ∧ ∃ o, M c = some o
theorem cK.sF {M0 M : Mh} {r : Addr} {as : List Addr} {n ways : Nat} (h : cK M0 M r as n ways) {a : Addr} (ha : a ∈ as) {row : List Int} (o : eZ n ways row) : cK M0 (ax M a (.lst (row.map .int))) r as n ways := by
  obtain ⟨f0, f1⟩ := h.fr a ha
  refine ⟨.upd f0 h.kp, h.r0, by rw [ak (Ne.symm f1)]; exact h.rm, h.fr, h.len, fun c hc => ?_, fun b u e => ?_⟩
  · by_cases z : c = a
    · subst z; exact ⟨row, updM_same, o⟩
    · rw [ak z]; exact h.row c hc
  · by_cases z : b = a
    · subst z; rw [updM_same] at e; cases e; exact .inr (.inr (.inl ⟨row, rfl⟩))
    · rw [ak z] at e
      rcases h.pin b u e with q | q | q | ⟨bs, q1, q2⟩
      · exact .inl q
      · exact .inr (.inl q)
      · exact .inr (.inr (.inl q))
      · refine .inr (.inr (.inr ⟨bs, q1, fun c hc => ⟨(q2 c hc).1, ?_⟩⟩))
        by_cases z : c = a
        · subst z; exact ⟨_, updM_same⟩
        · rw [ak z]; exact (q2 c hc).2
theorem cK.put {M0 M : Mh} {r : Addr} {as : List Addr} {n ways : Nat} (h : cK M0 M r as n ways) {a : Addr} (ha : M a = none) {row : List Int} (o : eZ n ways row) {i : Nat} (hi : i < n) : cK M0 (ax (ax M a (.lst (row.map .int))) r (.lst ((as.map .ptr).set i (.ptr a)))) r (as.set i a) n ways := by
  have nr : a ≠ r := fun z => by rw [z, h.rm] at ha; cases ha
  have a0 : M0 a = none := by
    cases e : M0 a with
    | none => rfl
    | some u => rw [h.kp a u e] at ha; cases ha
  have Ob : a ∉ as := fun z => by obtain ⟨row, e, _⟩ := h.row a z; rw [ha] at e; cases e
  refine ⟨.upd h.r0 (.upd a0 h.kp), h.r0, by rw [updM_same, List.map_set], fun c hc => ?_, by rw [List.length_set]; exact h.len, fun c hc => ?_, fun b u e => ?_⟩
  · rcases List.mem_or_eq_of_mem_set hc with z | z
    · exact h.fr c z
    · rw [z]; exact ⟨a0, nr⟩
  · rcases List.mem_or_eq_of_mem_set hc with z | z
    · have n1 := (h.fr c z).2
      have n2 : c ≠ a := fun e => Ob (e ▸ z)
      rw [ak n1, ak n2]; exact h.row c z
    · rw [z, ak nr, updM_same]; exact ⟨row, rfl, o⟩
  · by_cases z : b = r
    · exact .inr (.inl z)
    · rw [ak z] at e
      by_cases z2 : b = a
      · subst z2; rw [updM_same] at e; cases e; exact .inr (.inr (.inl ⟨row, rfl⟩))
      · rw [ak z2] at e
        rcases h.pin b u e with q | q | q | ⟨bs, q1, q2⟩
        · exact .inl q
        · exact .inr (.inl q)
        · exact .inr (.inr (.inl q))
        · refine .inr (.inr (.inr ⟨bs, q1, fun c hc => ⟨(q2 c hc).1, ?_⟩⟩))
          rw [ak (q2 c hc).1]
          by_cases z : c = a
          · subst z; exact ⟨_, updM_same⟩
          · rw [ak z]; exact (q2 c hc).2
structure jk (M0 M : Mh) : Prop where
  kp : Keeps M0 M
  pin : ∀ b o, M b = some o → M0 b = some o ∨ (∃ row : List Int, o = .lst (row.map .int)) ∨ ∃ bs : List Addr, o = .lst (bs.map .ptr) ∧ ∀ c ∈ bs, ∃ o, M c = some o
theorem jk.refl {M0 : Mh} : jk M0 M0 := ⟨.refl, fun b o e => .inl e⟩
theorem iK {M0 M : Mh} (h : Keeps M0 M) {a : Addr} (ha : M a = none) : M0 a = none := by
  cases e : M0 a with
  | none => rfl
  | some u => rw [h a u e] at ha; cases ha
theorem jk.row {M0 M : Mh} (h : jk M0 M) {a : Addr} (ha : M a = none) (row : List Int) : jk M0 (ax M a (.lst (row.map .int))) := by
  refine ⟨.upd (iK h.kp ha) h.kp, fun b o e => ?_⟩
  by_cases z : b = a
  · subst z; rw [updM_same] at e; cases e; exact .inr (.inl ⟨row, rfl⟩)
  · rw [ak z] at e
    rcases h.pin b o e with q | q | ⟨bs, q1, q2⟩
    · exact .inl q
    · exact .inr (.inl q)
    · refine .inr (.inr ⟨bs, q1, fun c hc => ?_⟩)
      by_cases z : c = a
      · subst z; exact ⟨_, updM_same⟩
      · rw [ak z]; exact q2 c hc
theorem cK.own {M0 M : Mh} {r : Addr} {as : List Addr} {n ways : Nat} (h : cK M0 M r as n ways) : jk M0 M := ⟨h.kp, fun b o e => by
  rcases h.pin b o e with q | q | q | ⟨bs, q1, q2⟩
  · exact .inl q
  · subst q; rw [h.rm] at e; cases e
    exact .inr (.inr ⟨as, rfl, fun c hc => let ⟨row, e, _⟩ := h.row c hc; ⟨_, e⟩⟩)
  · exact .inr (.inl q)
  · exact .inr (.inr ⟨bs, q1, fun c hc => (q2 c hc).2⟩)⟩
theorem cK.mk' {M0 M : Mh} {r : Addr} {as : List Addr} {n ways : Nat} (h : jk M0 M) (hr : M r = none) (hl : as.length = n) (ha : ∀ a ∈ as, M0 a = none ∧ ∃ row : List Int, M a = some (.lst (row.map .int)) ∧ eZ n ways row) : cK M0 (ax M r (.lst (as.map .ptr))) r as n ways := by
  have ne : ∀ {c o}, M c = some o → c ≠ r := fun e z => by rw [z, hr] at e; cases e
  refine ⟨.upd (iK h.kp hr) h.kp, iK h.kp hr, updM_same, fun a h => ?_, hl, fun a h => ?_, fun b o e => ?_⟩
  · obtain ⟨h0, row, e, _⟩ := ha a h
    exact ⟨h0, ne e⟩
  · obtain ⟨h0, row, e, o⟩ := ha a h
    exact ⟨row, by rw [ak (ne e)]; exact e, o⟩
  · by_cases z : b = r
    · exact .inr (.inl z)
    · rw [ak z] at e
      rcases h.pin b o e with q | q | ⟨bs, q1, q2⟩
      · exact .inl q
      · exact .inr (.inr (.inl q))
      · refine .inr (.inr (.inr ⟨bs, q1, fun c hc => ?_⟩))
        obtain ⟨u, e⟩ := q2 c hc
        exact ⟨ne e, u, by rw [ak (ne e)]; exact e⟩
theorem rM {g : cq} {te : aK} {n : Nat} {M1 : Mh} (T : aA → Prop) {ds : List Dv} {τ : aA} {Q : List Dv → Mh → Prop} (h0 : T τ) (h : ∀ d ∈ ds, ∀ τ, T τ → ∀ R : aA → ZK, (∀ (x : Int) aB, 0 ≤ x → x < (n : Int) → T aB → R aB (.int x) M1) → g d τ M1 fun aB M2 => te aB M2 (R aB)) (q : ∀ row : List Int, row.length = ds.length → (∀ x ∈ row, 0 ≤ x ∧ x < (n : Int)) → Q (row.map .int) M1) : fH g zNoIf te ds τ M1 Q := by
  refine fL (acc := []) (fun acc τ M => ∃ row : List Int, acc = row.map Dv.int ∧ (∀ x ∈ row, 0 ≤ x ∧ x < (n : Int)) ∧ T τ ∧ M = M1) ⟨[], rfl, (fun _ h => nomatch h), h0, rfl⟩ (fun i d acc τ M hd _ ⟨row, e1, hr, ht, e2⟩ R hR => ?_) (fun ys τ M hl ⟨row, e1, hr, ht, e2⟩ => ?_)
  · subst e1 e2
    refine h d (List.mem_of_getElem? hd) τ ht R fun x aB x0 x1 t2 => hR _ _ _ ⟨row ++ [x], by rw [List.map_append]; rfl, fun y hy => ?_, t2, rfl⟩
    rcases List.mem_append.mp hy with z | z
    · exact hr y z
    · rw [List.mem_singleton] at z; rw [z]; exact ⟨x0, x1⟩
  · rw [List.nil_append] at e1
    subst e1 e2
    exact q row (by simpa using hl) hr
noncomputable def dH (x : Option Dv) : Prop := ∀ M d, x = some d → Pin M d
theorem dH.none : dH none := fun _ _ h => nomatch h
theorem dH.int (i : Int) : dH (some (.int i)) := fun _ _ h => by cases h; exact .int i
theorem dH.lI (ns : List Int) : dH (some (jA ns)) := fun _ _ h => by cases h; exact .lst (gI ns)
theorem qX {M0 M : Mh} {as : List Addr} {n ways : Nat} {T : Prop} (hO : jk M0 M) (ha : ∀ a ∈ as, M0 a = none ∧ ∃ row : List Int, M a = some (.lst (row.map .int)) ∧ eZ n ways row) {a : Addr} (h : M a = none) {row : List Int} (o : eZ n ways row) (t : T) :
    ∃ KC : List Addr, as.map Dv.ptr ++ [Dv.ptr a] = KC.map Dv.ptr ∧ T ∧ jk M0 (ax M a (.lst (row.map .int))) ∧ ∀ c ∈ KC, M0 c = none ∧ ∃ xa : List Int, ax M a (.lst (row.map .int)) c = some (.lst (xa.map .int)) ∧ eZ n ways xa := by
  refine ⟨as ++ [a], by rw [List.map_append]; rfl, t, hO.row h row, fun c hc => ?_⟩
  rcases List.mem_append.mp hc with z | z
  · obtain ⟨h0, xa, e, o'⟩ := ha c z
    have ne : c ≠ a := fun q => by rw [q, h] at e; cases e
    exact ⟨h0, xa, by rw [ak ne]; exact e, o'⟩
  · rw [List.mem_singleton] at z
    subst z
    exact ⟨iK hO.kp h, row, updM_same, o⟩
theorem mF {n d : Nat} (h : d < n) : gW n (d : Int) = some d := by unfold gW; rw [if_pos (by omega), if_pos (by omega)]; rfl
theorem tR (row : List Int) (t : Nat) (x : Int) : (row.map Dv.int).set t (.int x) = (row.set t x).map Dv.int := by rw [List.map_set]
theorem eZ.set {n ways : Nat} {row : List Int} (h : eZ n ways row) {t : Nat} {x : Int} (x0 : 0 ≤ x) (x1 : x < (n : Int)) : eZ n ways (row.set t x) := ⟨by rw [List.length_set]; exact h.1, fun y hy => by
  rcases List.mem_or_eq_of_mem_set hy with z | z
  · exact h.2 y z
  · rw [z]; exact ⟨x0, x1⟩⟩
noncomputable def oX (os : List Int) : Dv → Int | .int j => os.getD j.toNat 0 | _ => 0
theorem tS {os : List Int} {j : Nat} {x : Int} (h : cZ (os.map Dv.int) (j : Int) = some (.int x)) : oX os (.int (j : Nat)) = x := by
  by_cases hj : j < os.length
  · rw [dB (j := j) (v := Dv.int os[j]) (by rw [List.getElem?_map, List.getElem?_eq_getElem hj]; rfl)] at h
    cases h
    show os.getD (Int.toNat (j : Int)) 0 = _
    rw [Int.toNat_natCast, List.getD_eq_getElem?_getD, List.getElem?_eq_getElem hj]; rfl
  · unfold cZ gW at h
    rw [if_pos (by omega), if_neg (by simp; omega)] at h
    cases h
noncomputable def BJ (per i : Nat) : Dv → Bool | .int j => decide (j % (per : Int) = ((i : Int) + 1) % (per : Int)) | _ => false
theorem BK {n per i : Nat} {os : List Int} (lL : d8 n os) (p1 : 1 ≤ per) (pn : per ≤ n) : ∃ gs : List Int, ((cf 0 n).filter (BJ per i)).map (fun d => Dv.int (oX os d)) = gs.map Dv.int ∧ 1 ≤ gs.length ∧ gs.length ≤ n ∧ ∀ x ∈ gs, 0 ≤ x ∧ x < (n : Int) := by
  refine ⟨((cf 0 n).filter (BJ per i)).map (oX os), by rw [List.map_map]; rfl, ?_, ?_, fun x hx => ?_⟩
  · rw [List.length_map]
    refine List.length_pos_of_mem (a := Dv.int (((i + 1) % per : Nat) : Int)) (List.mem_filter.mpr ⟨?_, ?_⟩)
    · have : (i + 1) % per < per := Nat.mod_lt _ (by omega)
      exact List.mem_of_getElem? (i := (i + 1) % per) (by rw [cf, List.getElem?_map, List.getElem?_range (by omega)]; simp)
    · show decide _ = true
      rw [decide_eq_true_eq]
      push_cast
      exact Int.emod_emod_of_dvd _ (Int.dvd_refl _)
  · rw [List.length_map]
    exact Nat.le_trans (List.length_filter_le _ _) (by rw [rangeD_len]; exact Nat.le_refl _)
  · obtain ⟨d, hd, rfl⟩ := List.mem_map.mp hx
    obtain ⟨j, hj, rfl⟩ := kj (List.mem_filter.mp hd).1
    rw [Int.zero_add]
    obtain ⟨gx, mY, g0, g1⟩ := lL.at hj
    rw [tS mY]
    exact ⟨g0, g1⟩
theorem xc {f f1 f2 : Addr} {fd bI fd2 : FuncData} (D : Df K mg "_law_net" bV ["_law_bag_here", "_law_most"] f fd)
    (aj : Df K mg "_law_take" d7 ["_law_bag_here", "_law_many"] f1 bI) (a9 : FnOk P w K mg base bf 1 f1 bI ["_law_bag_here", "_law_many"] (bj P w K tb mE))
    (bW : Df K mg "_law_order" eS ["_law_bag_here", "_law_many"] f2 fd2) (lM : FnOk P w K mg base bf 2 f2 fd2 ["_law_bag_here", "_law_many"] (bj P w K tb zQ)) (bl : Bl mg) : FnOk P w K mg base bf 3 f fd ["_law_bag_here", "_law_most"] (bj P w K tb CO) := by
  refine eh D bg (fun ds M Q E hS => by obtain ⟨b, n, e, _⟩ := hS; rw [e]; rfl) fun A outer s E Γ ds Q' E' hP hw hK ht hr hS => ?_
  obtain ⟨b, most, e, hb, h1, h9, q⟩ := hS
  refine ⟨_, (ao (aO (i := 2) bg.nd rfl (Or.inr rfl) (aR fy av (aI a9 (hr.mono (by decide)) rfl aj.mg aj.fn.kp aj.bd bb hP hw hK ht XR.none (aa (qv 0) (aa (qv 1) ah)))))
    (ao (aO (i := 3) bg.nd rfl (Or.inr rfl) (aR fy av (aI a9 (hr.mono (by decide)) rfl aj.mg aj.fn.kp aj.bd bb hP hw hK ht XR.none (aa (qv 0) (aa av ah)))))
    (ao (aO (i := 4) bg.nd rfl (Or.inl rfl) (aI a9 (hr.mono (by decide)) rfl aj.mg aj.fn.kp aj.bd bb hP hw hK ht XR.none (aa (qv 0) (aa av ah))))
    (ao (ux (i := 5) bg.nd rfl rfl (N' := ["_law_place", "_law_bag_here", "_law_many", "_law_ways"]) (tn := 1) (idx := [0, 2, 3]) rfl (show aE ["_law_bag_here", "_law_most", "_law_many", "_law_ways", "_law_kind", "_law_rows", "_law_order_here", "_law_period", "_law_stays", "_law_k", "_law_place", "_law_onward", "_law_goals", "_law_turns"] (ai bV) _ ["_law_place", "_law_bag_here", "_law_many", "_law_ways"] 1 [0, 2, 3] from by decide +kernel) (bH rfl bl.range_ (aa (qv 2) ah)) (fun _ _ _ _ _ => (aM (i := 0) (show List.Nodup [("_law_place" : Str), ("_law_bag_here" : Str), ("_law_many" : Str), ("_law_ways" : Str)] from by decide +kernel) rfl (Or.inl rfl))) (fun _ _ _ _ _ => cI) (fun _ _ _ _ _ => (jc (N' := ["_law_road", "_law_bag_here", "_law_many"]) (tn := 1) (idx := [1, 2]) rfl (aE.rel (show aE ["_law_place", "_law_bag_here", "_law_many", "_law_ways"] _ _ ["_law_road", "_law_bag_here", "_law_many"] 1 [1, 2] from by decide +kernel)) (bH rfl bl.range_ (aa (qv 3) ah)) (fun _ _ _ _ _ => (aM (i := 0) (show List.Nodup [("_law_road" : Str), ("_law_bag_here" : Str), ("_law_many" : Str)] from by decide +kernel) rfl (Or.inl rfl))) (fun _ _ _ _ _ => cI) (fun _ _ _ _ _ => (aI a9 (hr.mono (by decide)) rfl aj.mg aj.fn.kp aj.bd bb hP hw hK ht XR.none (aa (qv 1) (aa (qv 2) ah)))))))
    (ao (aO (i := 6) bg.nd rfl (Or.inr rfl) (aI lM (hr.mono (by decide)) rfl bW.mg bW.fn.kp bW.bd bb hP hw hK ht XR.none (aa (qv 0) (aa (qv 2) ah))))
    (ao (aO (i := 7) bg.nd rfl (Or.inr rfl) (aR fy av (aI a9 (hr.mono (by decide)) rfl aj.mg aj.fn.kp aj.bd bb hP hw hK ht XR.none (aa (qv 0) (aa (qv 2) ah)))))
    (ao (aO (i := 8) bg.nd rfl (Or.inr rfl) (aI a9 (hr.mono (by decide)) rfl aj.mg aj.fn.kp aj.bd bb hP hw hK ht XR.none (aa (qv 0) (aa av ah))))
    (ao (fu PassesOwn.never rfl (DT true (K := K) rfl rfl bl.enumerate_ (qv 6)) (fun oV eP ew eK et => by have hP := hP.trans eP.symm; have hw := hw.trans ew.symm; have hK := hK.trans eK.symm; have ht := ht.trans et.symm; exact ⟨(oH (n := 2) rfl (eO (aM (i := 9) bg.nd rfl (Or.inr rfl)) (eO (aM (i := 10) bg.nd rfl (Or.inr rfl)) mq))), (ao (aO (i := 11) bg.nd rfl (Or.inr rfl) (bN (c6 (K := K) rfl) (qv 6) (aR iA (aR fy (qv 9) av) (qv 2)) (fun _ _ => rfl)))
    (ao (cw (sR nv nv av (qv 4) av)
      (aw (i9 (qv 11) (j4 (bN (c6 (K := K) rfl) (qv 5) (qv 10) (fun _ _ => rfl)) (aI a9 (hr.mono (by decide)) rfl aj.mg aj.fn.kp aj.bd bb hP hw hK ht XR.none (aa (qv 0) (aa (qv 3) ah))))))
      qss_nil)
    (ao (cw (aW ia (qv 4) av (bw _))
      (ao (aO (i := 12) bg.nd rfl (Or.inr rfl) (dj (N' := ["_law_j", "_law_order_here", "_law_period", "_law_k"]) (tn := 1) (idx := [6, 7, 9]) rfl (show aE ["_law_bag_here", "_law_most", "_law_many", "_law_ways", "_law_kind", "_law_rows", "_law_order_here", "_law_period", "_law_stays", "_law_k", "_law_place", "_law_onward", "_law_goals", "_law_turns"] (ai bV) _ ["_law_j", "_law_order_here", "_law_period", "_law_k"] 1 [6, 7, 9] from by decide +kernel) (bH rfl bl.range_ (aa (qv 2) ah)) (fun _ _ _ _ _ => (aM (i := 0) (show List.Nodup [("_law_j" : Str), ("_law_order_here" : Str), ("_law_period" : Str), ("_law_k" : Str)] from by decide +kernel) rfl (Or.inl rfl))) (fun _ _ _ _ _ => (vb (aW ia (aR iA (qv 0) (qv 2)) (aR iA (aR fy (qv 3) av) (qv 2)) (bw _)))) (fun _ _ _ _ _ => (bN (c6 (K := K) rfl) (qv 1) (qv 0) (fun _ _ => rfl)))))
    (aw (i9 (jc (N' := ["_law_road", "_law_goals", "_law_bag_here"]) (tn := 1) (idx := [12, 0]) rfl (show aE ["_law_bag_here", "_law_most", "_law_many", "_law_ways", "_law_kind", "_law_rows", "_law_order_here", "_law_period", "_law_stays", "_law_k", "_law_place", "_law_onward", "_law_goals", "_law_turns"] (ai bV) _ ["_law_road", "_law_goals", "_law_bag_here"] 1 [12, 0] from by decide +kernel) (bH rfl bl.range_ (aa (qv 3) ah)) (fun _ _ _ _ _ => (aM (i := 0) (show List.Nodup [("_law_road" : Str), ("_law_goals" : Str), ("_law_bag_here" : Str)] from by decide +kernel) rfl (Or.inl rfl))) (fun _ _ _ _ _ => cI) (fun _ _ _ _ _ => (bN (c6 (K := K) rfl) (qv 1) (aI a9 (hr.mono (by decide)) rfl aj.mg aj.fn.kp aj.bd bb hP hw hK ht XR.none (aa (qv 2) (aa (aG (de (K := K) rfl hK) rfl bl.len_ PySem.boot_len (aa (qv 1) ah)) ah))) (fun _ _ => rfl)))) (j4 (qv 5) (qv 10)))))
      qss_nil)
    (aw (cw (aW ia (qv 4) av (bw _))
      (aw (i9 (aR (D7 (K := K) rfl) (y6 (aa (qv 11) ah)) (dj (N' := ["_law_road", "_law_stays", "_law_onward", "_law_place"]) (tn := 1) (idx := [8, 11, 10]) rfl (show aE ["_law_bag_here", "_law_most", "_law_many", "_law_ways", "_law_kind", "_law_rows", "_law_order_here", "_law_period", "_law_stays", "_law_k", "_law_place", "_law_onward", "_law_goals", "_law_turns"] (ai bV) _ ["_law_road", "_law_stays", "_law_onward", "_law_place"] 1 [8, 11, 10] from by decide +kernel) (y9 rfl bl.range_ (aa av (aa (qv 3) ah))) (fun _ _ _ _ _ => (aM (i := 0) (show List.Nodup [("_law_road" : Str), ("_law_stays" : Str), ("_law_onward" : Str), ("_law_place" : Str)] from by decide +kernel) rfl (Or.inl rfl))) (fun _ _ _ _ _ => cI) (fun _ _ _ _ _ => (bN (c6 (K := K) rfl) (y6 (aa (qv 2) (aa (qv 3) ah))) (qv 1) (fun _ _ => rfl))))) (j4 (qv 5) (qv 10))))
      qss_nil)))))⟩))
    (ao (cw (aW ia (qv 4) av (bw _))
      (ao (aO (i := 13) bg.nd rfl (Or.inr rfl) (dj (N' := ["_law_road", "_law_bag_here", "_law_many"]) (tn := 1) (idx := [0, 2]) rfl (show aE ["_law_bag_here", "_law_most", "_law_many", "_law_ways", "_law_kind", "_law_rows", "_law_order_here", "_law_period", "_law_stays", "_law_k", "_law_place", "_law_onward", "_law_goals", "_law_turns"] (ai bV) _ ["_law_road", "_law_bag_here", "_law_many"] 1 [0, 2] from by decide +kernel) (bH rfl bl.range_ (aa (qv 3) ah)) (fun _ _ _ _ _ => (aM (i := 0) (show List.Nodup [("_law_road" : Str), ("_law_bag_here" : Str), ("_law_many" : Str)] from by decide +kernel) rfl (Or.inl rfl))) (fun _ _ _ _ _ => cI) (fun _ _ _ _ _ => (aI lM (hr.mono (by decide)) rfl bW.mg bW.fn.kp bW.bd bb hP hw hK ht XR.none (aa (qv 1) (aa (qv 2) ah))))))
    (aw (tO (i := 5) bg.nd rfl rfl (N' := ["_law_place", "_law_turns"]) (tn := 1) (idx := [13]) rfl (show dm ["_law_bag_here", "_law_most", "_law_many", "_law_ways", "_law_kind", "_law_rows", "_law_order_here", "_law_period", "_law_stays", "_law_k", "_law_place", "_law_onward", "_law_goals", "_law_turns"] (ai bV) _ ["_law_place", "_law_turns"] 1 [13] from by decide +kernel) (bH rfl bl.range_ (aa (qv 2) ah)) (fun _ _ _ _ _ => (aM (i := 0) (show List.Nodup [("_law_place" : Str), ("_law_turns" : Str)] from by decide +kernel) rfl (Or.inr rfl))) (fun _ _ _ _ _ => cI) (fun _ _ _ _ _ => (jc (N' := ["_law_turn", "_law_place"]) (tn := 1) (idx := [0]) rfl (aE.rel (show aE ["_law_place", "_law_turns"] _ _ ["_law_turn", "_law_place"] 1 [0] from by decide +kernel)) (pG (K := K) rfl (qv 1)) (fun _ _ _ _ _ => (aM (i := 0) (show List.Nodup [("_law_turn" : Str), ("_law_place" : Str)] from by decide +kernel) rfl (Or.inl rfl))) (fun _ _ _ _ _ => cI) (fun _ _ _ _ _ => (bN (c6 (K := K) rfl) (qv 0) (qv 1) (fun _ _ => rfl))))))))
      qss_nil)
    (ao (cw (QW.pt (mj (aW ia (qv 4) av (bw _)) (lz (QW.pt (oG (aW ia (qv 4) av (bw _)) (mi (aW ia (qv 8) av (bw _))))))))
      (aw (i9 (aI a9 (hr.mono (by decide)) rfl aj.mg aj.fn.kp aj.bd bb hP hw hK ht XR.none (aa (qv 0) (aa (qv 2) ah))) (j4 (bN (c6 (K := K) rfl) (qv 5) (bN (c6 (K := K) rfl) (qv 6) av (fun _ _ => rfl)) (fun _ _ => rfl)) (aI a9 (hr.mono (by decide)) rfl aj.mg aj.fn.kp aj.bd bb hP hw hK ht XR.none (aa (qv 0) (aa (qv 3) ah))))))
      qss_nil)
    (aw (G6 5 rfl (aX (dO (j1 (K := K) rfl) rfl bl.tuple_ eF (aa (dj (N' := ["_law_row"]) (tn := 1) (idx := []) rfl (show aE ["_law_bag_here", "_law_most", "_law_many", "_law_ways", "_law_kind", "_law_rows", "_law_order_here", "_law_period", "_law_stays", "_law_k", "_law_place", "_law_onward", "_law_goals", "_law_turns"] (ai bV) _ ["_law_row"] 1 [] from by decide +kernel) (pG (K := K) rfl (qv 5)) (fun _ _ _ _ _ => (aM (i := 0) (show List.Nodup [("_law_row" : Str)] from by decide +kernel) rfl (Or.inl rfl))) (fun _ _ _ _ _ => cI) (fun _ _ _ _ _ => (dO (j1 (K := K) rfl) rfl bl.tuple_ eF (aa (qv 0) ah)))) ah))))))))))))))), ?_⟩
  subst e
  have big : (100 : Nat) < sizeLine := by decide
  refine Jq (fun ρ M => ∃ (n ways kind stays : Nat) (r : Addr) (as : List Addr) (os : List Int) (x7 x9 lN lO dw : Option Dv), (dH x7 ∧ dH x9 ∧ dH lN ∧ dH lO ∧ dH dw) ∧ ρ = [some (.ptr b), some (.int (most : Nat)), some (.int (n : Nat)), some (.int (ways : Nat)), some (.int (kind : Nat)), some (.ptr r), some (jA os), x7, some (.int (stays : Nat)), x9, lN, lO, dw, none] ∧ cK Γ.M0 M r as n ways ∧ d8 n os ∧ 1 ≤ n ∧ n ≤ most ∧ (ways = 2 ∨ ways = 3)) (fun N hN => ?_) ?_
  · simp! only []
    refine ⟨b, _, rfl, hb, by omega, by omega, fun m hm => ?_⟩
    obtain ⟨n, hn⟩ : ∃ n : Nat, (1 + (m : Int)) = (n : Nat) := ⟨1 + m, by omega⟩
    have n1 : 1 ≤ n := by omega
    have n9 : n ≤ most := by omega
    simp! only [hn]
    refine ⟨b, _, rfl, hb, by omega, by omega, fun v hv => ?_⟩
    obtain ⟨ways, Ju⟩ : ∃ ways : Nat, (2 + (v : Int)) = (ways : Nat) := ⟨2 + v, by omega⟩
    have w2 : ways = 2 ∨ ways = 3 := by omega
    simp! only [Ju]
    refine ⟨b, _, rfl, hb, by omega, by omega, fun kind me => ?_⟩
    simp! only []
    refine ⟨by omega, by omega, by omega, ?_⟩
    refine fL (acc := []) (fun acc τ M => ∃ as : List Addr, acc = as.map Dv.ptr ∧ (∃ x, τ = [x, some (.ptr b), some (.int (n : Nat)), some (.int (ways : Nat))]) ∧ jk Γ.M0 M ∧ ∀ a ∈ as, Γ.M0 a = none ∧ ∃ row : List Int, M a = some (.lst (row.map .int)) ∧ eZ n ways row) ⟨[], rfl, ⟨_, rfl⟩, .refl, fun _ h => nomatch h⟩ (fun i d acc τ M hd _ ⟨as, e1, ⟨x, e2⟩, hO, ha⟩ R hR => ?_) (fun ys τ M hl ⟨as, e1, ⟨x, e2⟩, hO, ha⟩ => ?_)
    · subst e1 e2
      simp! only []
      refine ⟨by omega, by omega, by omega, rM (n := n) (fun τ => ∃ y, τ = [y, some (.ptr b), some (.int (n : Nat))]) ⟨_, rfl⟩ (fun d hd τ ⟨y, e⟩ R2 Hx => ?_) (fun row hl nG a jw => ?_)⟩
      · subst e
        simp! only []
        exact ⟨b, _, rfl, hO.kp _ _ hb, by omega, by omega, fun d hd => Hx _ _ (by omega) (by omega) ⟨_, rfl⟩⟩
      · exact hR _ _ _ (qX hO ha jw ⟨by simpa [rangeD_len] using hl, nG⟩ ⟨_, rfl⟩)
    · rw [List.nil_append] at e1
      subst e1 e2
      intro r Oc
      have RM := cK.mk' (n := n) (ways := ways) hO Oc (by simpa [rangeD_len] using hl) ha
      refine ⟨b, n, rfl, RM.kp _ _ hb, by omega, fun os lL => ?_⟩
      simp! only []
      refine ⟨b, _, rfl, RM.kp _ _ hb, by omega, by omega, fun pe O8 => ?_⟩
      simp! only []
      refine ⟨b, _, rfl, RM.kp _ _ hb, by omega, by omega, fun stays mJ => ?_⟩
      obtain ⟨per, L9⟩ : ∃ per : Nat, (1 + (pe : Int)) = (per : Nat) := ⟨1 + pe, by omega⟩
      simp! only [L9]
      have sE := lL.len
      refine da (fun i ρ M => ∃ (as : List Addr) (x9 lN lO dw : Option Dv), (dH x9 ∧ dH lN ∧ dH lO ∧ dH dw) ∧ ρ = [some (.ptr b), some (.int (most : Nat)), some (.int (n : Nat)), some (.int (ways : Nat)), some (.int (kind : Nat)), some (.ptr r), some (jA os), some (.int (per : Nat)), some (.int (stays : Nat)), x9, lN, lO, dw, none] ∧ cK Γ.M0 M r as n ways)
        ⟨as, _, _, _, _, ⟨.none, .none, .none, .none⟩, rfl, RM⟩ (fun i d ρ M N2 hd ⟨as, x9, lN, lO, dw, ⟨p9, CP, CQ, jF⟩, e1, RM⟩ oW => ?_) (fun ρ M ⟨as, x9, lN, lO, dw, ⟨p9, CP, CQ, jF⟩, e1, RM⟩ => ?_)
      · subst e1
        have hd : (cU (jd (os.map Dv.int).length) (os.map Dv.int))[i]? = some d := by rw [List.length_map]; exact hd
        obtain ⟨y, rfl, hy⟩ := DY hd
        obtain ⟨place, bQ, rfl⟩ := lD hy
        have hi : i < n := by have := (List.getElem?_eq_some_iff.mp bQ).1; omega
        obtain ⟨KD, Od⟩ := lL.mem (List.mem_of_getElem? bQ)
        obtain ⟨pk, rfl⟩ := Int.eq_ofNat_of_zero_le KD
        have zS : pk < n := by omega
        have Ma : ((i : Int) + 1) % (n : Int) = (((i + 1) % n : Nat) : Int) := by push_cast; rfl
        obtain ⟨on, Oe, CT, Hy⟩ := lL.at (i := (i + 1) % n) (Nat.mod_lt _ (by omega))
        obtain ⟨vB, rfl⟩ := Int.eq_ofNat_of_zero_le CT
        have step : ∀ {as : List Addr} {M : Mh}, cK Γ.M0 M r as n ways → ∃ a, cZ (as.map Dv.ptr) ((pk : Nat) : Int) = some (.ptr a) ∧ a ∈ as := fun {as M} RM => by
          have hl : pk < as.length := by rw [RM.len]; exact zS
          exact ⟨as[pk], dB (by rw [List.getElem?_map, List.getElem?_eq_getElem hl]; rfl), List.getElem_mem hl⟩
        simp only [zgTup, zgCons, zgNil, zgName, List.set_cons_zero, List.set_cons_succ, List.length_cons, List.length_nil, Nat.reduceAdd, List.getElem?_cons_zero]
        refine ⟨trivial, ?_⟩
        refine kr (fun ρ M => ∃ (as : List Addr) (dw : Option Dv), dH dw ∧ ρ = [some (.ptr b), some (.int (most : Nat)), some (.int (n : Nat)), some (.int (ways : Nat)), some (.int (kind : Nat)), some (.ptr r), some (jA os), some (.int (per : Nat)), some (.int (stays : Nat)), some (.int (i : Nat)), some (.int (pk : Nat)), some (.int (vB : Nat)), dw, none] ∧ cK Γ.M0 M r as n ways) (fun N hN => ?_) ?_
        · simp! only [Ma, Oe]
          exact ⟨by omega, hN _ _ ⟨as, _, jF, rfl, RM⟩⟩
        rintro ρ M ⟨as, dw, jF, rfl, RM⟩
        refine kr (fun ρ M => ∃ (as : List Addr) (dw : Option Dv), dH dw ∧ ρ = [some (.ptr b), some (.int (most : Nat)), some (.int (n : Nat)), some (.int (ways : Nat)), some (.int (kind : Nat)), some (.ptr r), some (jA os), some (.int (per : Nat)), some (.int (stays : Nat)), some (.int (i : Nat)), some (.int (pk : Nat)), some (.int (vB : Nat)), dw, none] ∧ cK Γ.M0 M r as n ways) (fun N hN => ?_) ?_
        · simp! only []
          refine c4 (fun h => c4 (fun h2 => ?_) (fun _ => hN _ _ ⟨as, _, jF, rfl, RM⟩)) (fun _ => hN _ _ ⟨as, _, jF, rfl, RM⟩)
          obtain ⟨a, ea, ha⟩ := step RM
          obtain ⟨row, em, ro⟩ := RM.row a ha
          simp only [RM.rm, ea]
          refine ⟨b, _, rfl, RM.kp _ _ hb, by omega, by omega, fun t ht => ?_⟩
          simp only [em, List.length_map, ro.1, mF (show t < ways by omega)]
          rw [tR]
          exact hN _ _ ⟨as, _, jF, rfl, RM.sF ha (ro.set CT Hy)⟩
        rintro ρ M ⟨as, dw, jF, rfl, RM⟩
        refine kr (fun ρ M => ∃ (as : List Addr) (dw : Option Dv), dH dw ∧ ρ = [some (.ptr b), some (.int (most : Nat)), some (.int (n : Nat)), some (.int (ways : Nat)), some (.int (kind : Nat)), some (.ptr r), some (jA os), some (.int (per : Nat)), some (.int (stays : Nat)), some (.int (i : Nat)), some (.int (pk : Nat)), some (.int (vB : Nat)), dw, none] ∧ cK Γ.M0 M r as n ways) (fun N hN => ?_) ?_
        · simp! only []
          refine c4 (fun h => ?_) (fun _ => hN _ _ ⟨as, _, jF, rfl, RM⟩)
          have O9 : ∀ j : Nat, ((j : Int) % (per : Int)) = ((j % per : Nat) : Int) := fun j => by push_cast; rfl
          refine ⟨by omega, by omega, by omega, pL (BJ per i) (fun d => .int (oX os d)) (fun τ M' => (∃ x, τ = [x, some (jA os), some (.int (per : Nat)), some (.int (i : Nat))]) ∧ M' = M) ⟨⟨_, rfl⟩, rfl⟩ (fun d hd τ M' ⟨⟨x, e⟩, eM⟩ R0 R h1 h2 => ?_) (fun τ M' ⟨⟨x, e⟩, eM⟩ => ?_)⟩
          · subst e eM
            obtain ⟨j, hj, rfl⟩ := kj hd
            simp only [Int.zero_add] at h1 h2 ⊢
            obtain ⟨gx, mY, g0, g1⟩ := lL.at hj
            have hg : oX os (.int (j : Nat)) = gx := tS mY
            simp! only [mY]
            refine ⟨by omega, by omega, c4 (fun h => ?_) (fun h => ?_)⟩
            · rw [hg] at h1
              exact h1 h _ _ ⟨⟨_, rfl⟩, rfl⟩
            · exact h2 h _ _ ⟨⟨_, rfl⟩, rfl⟩
          · subst e eM
            obtain ⟨gs, Of, Pa, Pb, Og⟩ := BK (i := i) lL (per := per) (by omega) (by omega)
            rw [Of]
            refine ⟨by omega, by omega, by omega, rM (n := n) (fun τ => ∃ y, τ = [y, some (jA gs), some (.ptr b)]) ⟨_, rfl⟩ (fun d hd τ ⟨y, e⟩ R hR => ?_) (fun row hl nG a jw => ?_)⟩
            · subst e
              simp! only []
              refine ⟨b, _, rfl, RM.kp _ _ hb, by omega, by omega, fun t ht => ?_⟩
              have CU : t < gs.length := by omega
              simp only [show cZ (gs.map Dv.int) (t : Int) = some (.int gs[t]) from dB (by rw [List.getElem?_map, List.getElem?_eq_getElem CU]; rfl)]
              obtain ⟨q0, q1⟩ := Og _ (List.getElem_mem CU)
              exact hR _ _ q0 q1 ⟨_, rfl⟩
            · have nr : r ≠ a := fun z => by rw [← z, RM.rm] at jw; cases jw
              simp only [ak nr, RM.rm, List.length_map, RM.len, mF zS]
              exact hN _ _ ⟨_, _, .lI gs, rfl, RM.put jw ⟨by simpa [rangeD_len] using hl, nG⟩ zS⟩
        rintro ρ M ⟨as, dw, jF, rfl, RM⟩
        simp! only []
        refine c4 (fun h => ?_) (fun _ => oW _ _ ⟨as, _, _, _, _, ⟨.int _, .int _, .int _, jF⟩, rfl, RM⟩)
        refine ⟨by omega, ⟨by omega, by omega, by omega, by omega⟩, by omega, rM (n := n) (fun τ => ∃ y, τ = [y, some (.int (stays : Nat)), some (.int (vB : Nat)), some (.int (pk : Nat))]) ⟨_, rfl⟩ (fun d hd τ ⟨y, e⟩ R hR => ?_) (fun row hl nG => ⟨?_, fun a jw => ?_⟩)⟩
        · subst e
          simp! only []
          have Oh : stays = 0 ∨ stays = 1 := by omega
          rcases Oh with rfl | rfl
          · exact ⟨by omega, hR _ _ CT Hy ⟨_, rfl⟩⟩
          · exact ⟨by omega, hR _ _ KD Od ⟨_, rfl⟩⟩
        · rw [List.length_map, hl, rangeD_len]; omega
        · have nr : r ≠ a := fun z => by rw [← z, RM.rm] at jw; cases jw
          have er : Dv.int (vB : Nat) :: row.map Dv.int = ((vB : Int) :: row).map Dv.int := rfl
          rw [er]
          simp only [ak nr, RM.rm, List.length_map, RM.len, mF zS]
          refine oW _ _ ⟨_, _, _, _, _, ⟨.int _, .int _, .int _, jF⟩, rfl, RM.put jw ⟨?_, fun x hx => ?_⟩ zS⟩
          · rw [List.length_cons, hl, rangeD_len]; omega
          · rcases List.mem_cons.mp hx with z | z
            · rw [z]; exact ⟨CT, Hy⟩
            · exact nG x z
      · exact hN _ _ ⟨n, ways, kind, stays, r, as, os, _, _, _, _, _, ⟨.int _, p9, CP, CQ, jF⟩, e1, RM, lL, n1, n9, w2⟩
  · rintro ρ M ⟨n, ways, kind, stays, r, as, os, x7, x9, lN, lO, dw, ⟨p7, p9, CP, CQ, jF⟩, rfl, RM, lL, n1, n9, w2⟩
    have sE := lL.len
    refine kr (fun ρ M => ∃ (r : Addr) (as : List Addr) (i7 : Option Dv), dH i7 ∧ ρ = [some (.ptr b), some (.int (most : Nat)), some (.int (n : Nat)), some (.int (ways : Nat)), some (.int (kind : Nat)), some (.ptr r), some (jA os), x7, some (.int (stays : Nat)), x9, lN, lO, dw, i7] ∧ cK Γ.M0 M r as n ways) (fun N hN => ?_) ?_
    · simp! only []
      refine c4 (fun h => ?_) (fun _ => hN _ _ ⟨r, as, _, .none, rfl, RM⟩)
      refine ⟨by omega, by omega, by omega, fL (acc := []) (fun acc τ M' => ∃ ts : List (List Int), acc = ts.map jA ∧ (∃ x, τ = [x, some (.ptr b), some (.int (n : Nat))]) ∧ (∀ o ∈ ts, d8 n o) ∧ M' = M) ⟨[], rfl, ⟨_, rfl⟩, (fun _ h => nomatch h), rfl⟩ (fun i d acc τ M' hd _ ⟨ts, e1, ⟨x, e2⟩, hT, eM⟩ R hR => ?_) (fun ys τ M' hl ⟨ts, e1, ⟨x, e2⟩, hT, eM⟩ => ?_)⟩
      · subst e1 e2 eM
        simp! only []
        refine ⟨b, n, rfl, RM.kp _ _ hb, by omega, fun o ho => hR _ _ _ ⟨ts ++ [o], by rw [List.map_append]; rfl, ⟨_, rfl⟩, fun c hc => ?_, rfl⟩⟩
        rcases List.mem_append.mp hc with z | z
        · exact hT c z
        · rw [List.mem_singleton] at z; rw [z]; exact ho
      · rw [List.nil_append] at e1
        subst e1 e2 eM
        have CU : ts.length = ways := by simpa [rangeD_len] using hl
        refine ⟨by omega, by omega, by omega, fL (acc := []) (fun acc τ M => ∃ as : List Addr, acc = as.map Dv.ptr ∧ (∃ x, τ = [x, some (.lst (ts.map jA))]) ∧ jk Γ.M0 M ∧ ∀ a ∈ as, Γ.M0 a = none ∧ ∃ row : List Int, M a = some (.lst (row.map .int)) ∧ eZ n ways row) ⟨[], rfl, ⟨_, rfl⟩, RM.own, fun _ h => nomatch h⟩ (fun i d acc τ M hd _ ⟨as, e1, ⟨x, e2⟩, hO, ha⟩ R hR => ?_) (fun ys τ M hl ⟨as, e1, ⟨x, e2⟩, hO, ha⟩ => ?_)⟩
        · subst e1 e2
          obtain ⟨rfl, hi⟩ := eR hd
          simp! only []
          refine ⟨by omega, rM (n := n) (fun τ => ∃ y, τ = [y, some (.int (i : Nat))]) ⟨_, rfl⟩ (fun d hd τ ⟨y, e⟩ R2 Hx => ?_) (fun row hl nG a jw => ?_)⟩
          · subst e
            obtain ⟨o, ho, rfl⟩ := List.mem_map.mp hd
            obtain ⟨gx, mY, g0, g1⟩ := (hT o ho).at hi
            simp! only [mY]
            exact Hx _ _ g0 g1 ⟨_, rfl⟩
          · exact hR _ _ _ (qX hO ha jw ⟨by rw [hl, List.length_map]; exact CU, nG⟩ ⟨_, rfl⟩)
        · rw [List.nil_append] at e1
          subst e1 e2
          intro r2 Oi
          refine hN _ _ ⟨r2, as, _, fun M d e => ?_, rfl, cK.mk' (n := n) (ways := ways) hO Oi (by simpa [rangeD_len] using hl) ha⟩
          cases e
          exact .lst fun d hd => by obtain ⟨o, _, rfl⟩ := List.mem_map.mp hd; exact .lst (gI o)
    rintro ρ M ⟨r, as, i7, zT, rfl, RM⟩
    refine kr (fun ρ M => ∃ (r : Addr) (as : List Addr) (i7 : Option Dv), dH i7 ∧ ρ = [some (.ptr b), some (.int (most : Nat)), some (.int (n : Nat)), some (.int (ways : Nat)), some (.int (kind : Nat)), some (.ptr r), some (jA os), x7, some (.int (stays : Nat)), x9, lN, lO, dw, i7] ∧ cK Γ.M0 M r as n ways) (fun N hN => ?_) ?_
    · simp! only []
      obtain ⟨gx, mY, g0, g1⟩ := lL.at (i := 0) (by omega)
      obtain ⟨gk, rfl⟩ := Int.eq_ofNat_of_zero_le g0
      have mY : cZ (os.map Dv.int) 0 = some (.int (gk : Nat)) := mY
      have uT : gk < as.length := by rw [RM.len]; omega
      have ea : cZ (as.map Dv.ptr) (gk : Int) = some (.ptr as[gk]) := dB (by rw [List.getElem?_map, List.getElem?_eq_getElem uT]; rfl)
      have ha := List.getElem_mem uT
      obtain ⟨row, em, ro⟩ := RM.row as[gk] ha
      simp only [mY]
      have put : mE [.ptr b, .int (n : Nat)] M (fun d M1 => match (match M1 r with | some (.lst ds) => some ds | _ => none) with
          | some ds => (match cZ ds (gk : Int) with
            | some Oj => mE [.ptr b, .int (ways : Nat)] M1 (fun i M2 => match Oj, i with
              | .ptr a, .int k => (match M2 a with
                | some (.lst xs) => (match gW xs.length k with
                  | some j => N [some (.ptr b), some (.int (most : Nat)), some (.int (n : Nat)), some (.int (ways : Nat)), some (.int (kind : Nat)), some (.ptr r), some (jA os), x7, some (.int (stays : Nat)), x9, lN, lO, dw, i7] (ax M2 a (.lst (xs.set j d)))
                  | none => False)
                | _ => False)
              | _, _ => False) fun _ _ => False
            | none => False)
          | none => False) fun _ _ => False := by
        refine ⟨b, _, rfl, RM.kp _ _ hb, by omega, by omega, fun u hu => ?_⟩
        simp only [RM.rm, ea]
        refine ⟨b, _, rfl, RM.kp _ _ hb, by omega, by omega, fun t ht => ?_⟩
        simp only [em, List.length_map, ro.1, mF (show t < ways by omega)]
        rw [tR]
        exact hN _ _ ⟨r, as, _, zT, rfl, RM.sF ha (ro.set (by omega) (by omega))⟩
      exact c4 (fun _ => put) (fun _ => c4 (fun _ => c4 (fun _ => put) (fun _ => hN _ _ ⟨r, as, _, zT, rfl, RM⟩)) (fun _ => hN _ _ ⟨r, as, _, zT, rfl, RM⟩))
    rintro ρ M ⟨r, as, i7, zT, rfl, RM⟩
    have nb : ∀ {c o}, Γ.M0 c = some o → c ≠ r := fun e z => by rw [z, RM.r0] at e; cases e
    have dk : Keeps Γ.M0 (cY M r) := fun c o e => by rw [cN (nb e)]; exact RM.kp c o e
    refine .inr ⟨r, _, rfl, RM.rm, RM.r0, ⟨fun j d e => ?_, fun c o e => ?_⟩, ?_⟩
    · match j, e with
      | 0, e => cases e; exact .ptr (by rw [dk _ _ hb]; rfl)
      | 1, e => cases e; exact .int _
      | 2, e => cases e; exact .int _
      | 3, e => cases e; exact .int _
      | 4, e => cases e; exact .int _
      | 5, e => cases e; exact .lst fun d hd => by
                  obtain ⟨a, ha, rfl⟩ := List.mem_map.mp hd
                  obtain ⟨row, em, _⟩ := RM.row a ha
                  exact .ptr (by rw [cN (RM.fr a ha).2, em]; rfl)
      | 6, e => cases e; exact .lst (gI _)
      | 7, e => exact p7 _ _ (Option.some.inj e)
      | 8, e => cases e; exact .int _
      | 9, e => exact p9 _ _ (Option.some.inj e)
      | 10, e => exact CP _ _ (Option.some.inj e)
      | 11, e => exact CQ _ _ (Option.some.inj e)
      | 12, e => exact jF _ _ (Option.some.inj e)
      | 13, e => exact zT _ _ (Option.some.inj e)
      | j + 14, e => exact nomatch e
    · have nc : c ≠ r := fun z => by rw [z, dS] at e; cases e
      rw [cN nc] at e
      rcases RM.pin c o e with q | q | ⟨row, rfl⟩ | ⟨bs, rfl, q2⟩
      · exact .inl q
      · exact absurd q nc
      · exact .inr (gI row)
      · refine .inr fun d hd => ?_
        obtain ⟨a, ha, rfl⟩ := List.mem_map.mp hd
        obtain ⟨h1, u, h2⟩ := q2 a ha
        exact .ptr (by rw [cN h1, h2]; rfl)
    · simp! only []
      refine ⟨by rw [RM.len]; omega, fL (acc := []) (fun acc τ M' => ∃ rs : List (List Int), acc = rs.map eI ∧ (∃ x, τ = [x]) ∧ (∀ row ∈ rs, eZ n ways row) ∧ M' = cY M r) ⟨[], rfl, ⟨_, rfl⟩, (fun _ h => nomatch h), rfl⟩ (fun i d acc τ M' hd _ ⟨rs, e1, ⟨x, e2⟩, CV, eM⟩ R hR => ?_) (fun ys τ M' hl ⟨rs, e1, ⟨x, e2⟩, CV, eM⟩ => ?_)⟩
      · subst e1 e2 eM
        obtain ⟨a, ha, rfl⟩ := lD hd
        have ha := List.mem_of_getElem? ha
        obtain ⟨row, em, ro⟩ := RM.row a ha
        simp! only [cN (RM.fr a ha).2, em]
        refine hR _ _ _ ⟨rs ++ [row], by rw [List.map_append]; rfl, ⟨_, rfl⟩, fun c hc => ?_, rfl⟩
        rcases List.mem_append.mp hc with z | z
        · exact CV c z
        · rw [List.mem_singleton] at z; rw [z]; exact ro
      · rw [List.nil_append] at e1
        subst e1 e2 eM
        have Ol : rs.length = n := by rw [List.length_map, List.length_map, RM.len] at hl; exact hl
        exact qO dk (G0 rs) (q rs ways ⟨by omega, by omega, w2, fun row hr => ⟨(CV row hr).1, fun g hg => by rw [Ol]; exact (CV row hr).2 g hg⟩⟩ (by omega))
end
section
variable {P : Program} {w : World} {K : PySem.W.Frag} {mg : Str → Option Value} {base : Heap} {tb : cG}
theorem uA : aQ ["thing"] ["thing"] (ai dg) := ⟨rfl, rfl, rfl, by decide +kernel, rfl, by decide +kernel, by decide +kernel⟩
theorem mG : aQ ["thing", "many"] ["thing", "many"] (ai bL) := ⟨rfl, rfl, rfl, by decide +kernel, rfl, by decide +kernel, by decide +kernel⟩
theorem zU : aQ ["thing", "many", "width"] ["thing", "many", "width"] (ai jh) := ⟨rfl, rfl, rfl, by decide +kernel, rfl, by decide +kernel, by decide +kernel⟩
theorem lQ : aQ ["thing", "many", "width"] ["thing"] (ai ji) := ⟨rfl, rfl, rfl, by decide +kernel, rfl, by decide +kernel, by decide +kernel⟩
noncomputable def lR (d : Dv) : Bool := (isD "int" (fun _ => none) d).isSome
noncomputable def zV : Dv → Bool | .int _ => true | _ => false
noncomputable def cg (m : Int) : Dv → Bool | .int i => decide (0 ≤ i) && decide (i < m) | _ => false
noncomputable def Hz : cJ := fun ds M Q _ => ∃ d, ds = [d] ∧ lR d = true ∧ Q (.bl (zV d)) M
theorem uB {f : Addr} {fd : FuncData} (D : Df K mg "is_whole" dg ["thing"] f fd) (bl : Bl mg) : FnOk P w K mg base bf 1 f fd ["thing"] (bj P w K tb Hz) := by
  refine eh D uA (fun ds M Q E hS => by obtain ⟨d, e, _⟩ := hS; rw [e]; rfl) fun A outer s E Γ ds Q' E' hP hw hK ht hr hS => ?_
  obtain ⟨d, e, hk, q⟩ := hS
  refine ⟨_, (aw (aX (sT (aG (gH (K := K) rfl) rfl bl.isinstance_ c7 (aa (qv 0) (aa (iM (v := .ty "int") rfl bl.int_ FV rfl) ah))) (sS (GH (aG (gH (K := K) rfl) rfl bl.isinstance_ c7 (aa (qv 0) (aa (iM (v := .ty "bool") rfl bl.bool_ Ds rfl) ah)))))))), ?_⟩
  subst e
  cases d <;> first | exact ⟨by decide, ⟨by decide, .inl q⟩⟩ | exact ⟨by decide, .inl q⟩ | exact nomatch hk
noncomputable def HA : cJ := fun ds M Q _ => ∃ d m, ds = [d, .int m] ∧ lR d = true ∧ Q (.bl (cg m d)) M
theorem iw {f f1 : Addr} {fd bI : FuncData} (D : Df K mg "is_whole_below" bL ["thing", "many"] f fd) (bp : Df K mg "is_whole" dg ["thing"] f1 bI) (bl : Bl mg) : FnOk P w K mg base bf 2 f fd ["thing", "many"] (bj P w K tb HA) := by
  have xf := uB (P := P) (w := w) (base := base) (tb := tb) bp bl
  refine eh D mG (fun ds M Q E hS => by obtain ⟨d, m, e, _⟩ := hS; rw [e]; rfl) fun A outer s E Γ ds Q' E' hP hw hK ht hr hS => ?_
  obtain ⟨d, m, e, hk, q⟩ := hS
  refine ⟨_, (aw (aX (sT (aI xf (hr.mono (by decide)) rfl bp.mg bp.fn.kp bp.bd bb hP hw hK ht XR.none (aa (qv 0) ah)) (sS (Bq wG nv av (qv 0) (qv 1)))))), ?_⟩
  subst e
  refine ⟨d, rfl, hk, ?_⟩
  cases d with
  | int i =>
    simp! only [zV]
    refine c4 (fun h => ?_) (fun h => ?_)
    · rw [show cg m (.int i) = decide (i < m) by simp only [cg, h, Bool.true_and]] at q
      exact .inl q
    · rw [show cg m (.int i) = false by simp only [cg, h, Bool.false_and]] at q
      exact .inl q
  | _ => exact .inl q
noncomputable def gL (m : Int) (w : Nat) : Dv → Bool | .tup ds => decide (ds.length = w) && ds.all (cg m) | _ => false
noncomputable def BL : Dv → Bool | .tup ds => ds.all lR | d => lR d
noncomputable def HB : cJ := fun ds M Q _ => ∃ d m w, ds = [d, .int m, .int (w : Nat)] ∧ BL d = true ∧ Q (.bl (gL m w d)) M
theorem zW {f f1 f2 : Addr} {fd bI fd2 : FuncData} {ky aV : Addr} (D : Df K mg "is_row" jh ["thing", "many", "width"] f fd) (gM : uU base fd ky aV) (hp : aV ∈ tb) (ej : ∃ bm ob, BMod base mainGlobals mg bm ob)
    (aF : Df K mg "is_whole_below" bL ["thing", "many"] f1 bI) (bp : Df K mg "is_whole" dg ["thing"] f2 fd2) (bl : Bl mg) : FnOk P w K mg base bf 4 f fd ["thing", "many", "width"] (bj P w K tb HB) := by
  have fM := iw (P := P) (w := w) (base := base) (tb := tb) aF bp bl
  refine eh D zU (fun ds M Q E hS => by obtain ⟨d, m, n, e, _⟩ := hS; rw [e]; rfl) fun A outer s E Γ ds Q' E' hP hw hK ht hr hS => ?_
  obtain ⟨d, m, n, e, hk, q⟩ := hS
  have xg : aV ∈ Γ.tb := ht ▸ hp
  refine ⟨_, (ao (cw (QW.pt (mj (g8 (g7 (aG (gH (K := K) rfl) rfl bl.isinstance_ c7 (aa (qv 0) (aa (iM (v := .ty "tuple") rfl bl.tuple_ eF rfl) ah))))) (lz (aW LO (aG (de (K := K) rfl hK) rfl bl.len_ PySem.boot_len (aa (qv 0) ah)) (qv 2) (bw _)))))
      (aw (aX gp))
      qss_nil)
    (aw (aX (sZ (k := 2) (N' := ["goal", "many"]) (tn := 1) (idx := [1]) xg (hr.mono (by decide)) rfl (show aE ["thing", "many", "width"] (ai jh) _ ["goal", "many"] 1 [1] from by decide +kernel) rfl rfl gM.code gM.hd ej rfl bl.all_ (jW (K := K) rfl (qv 0)) (fun _ _ _ _ _ _ _ hr => (aM (i := 0) (show List.Nodup [("goal" : Str), ("many" : Str)] from by decide +kernel) rfl (Or.inl rfl))) (fun _ _ _ _ _ _ _ hr => cI) (fun _ _ _ _ _ _ _ hr => (aI fM (hr.mono (by decide)) rfl aF.mg aF.fn.kp aF.bd bb hP hw hK ht XR.none (aa (qv 0) (aa (qv 1) ah)))))))), ?_⟩
  subst e
  cases d with
  | tup es =>
    refine ⟨by decide, c4 (c := !decide ((es.length : Int) = (n : Nat))) (fun h => ?_) (fun h => ?_)⟩
    · rw [show gL m n (.tup es) = false by simp at h; simp [gL]; intro z; omega] at q
      exact .inl q
    · rw [show gL m n (.tup es) = es.all (cg m) by simp at h; simp [gL, show es.length = n by omega]] at q
      refine mB (cg m) (fun τ => ∃ x, τ = [x, some (.int m)]) ⟨none, rfl⟩ (fun d hd τ ⟨x, e⟩ R hR => ?_) (.inl q)
      subst e
      exact ⟨d, m, rfl, List.all_eq_true.mp hk d hd, hR _ ⟨_, rfl⟩⟩
  | _ => first | exact ⟨by decide, .inl q⟩ | exact nomatch hk
noncomputable def jl : Dv → Bool | .tup rs => decide (1 ≤ rs.length ∧ rs.length ≤ 9) && (rs.all (gL rs.length 2) || rs.all (gL rs.length 3)) | _ => false
noncomputable def xh : Dv → Bool | .tup rs => rs.all BL | d => lR d
noncomputable def HC : cJ := fun ds M Q _ => ∃ d, ds = [d] ∧ xh d = true ∧ Q (.bl (jl d)) M
theorem zX {f f1 f2 f3 : Addr} {fd bI fd2 mZ : FuncData} {ky aV tT bq : Addr} (D : Df K mg "is_net" ji ["thing"] f fd) (kz : uU base fd tT bq) (Om : bq ∈ tb) (fN : Df K mg "is_row" jh ["thing", "many", "width"] f3 mZ) (gM : uU base mZ ky aV) (hp : aV ∈ tb) (ej : ∃ bm ob, BMod base mainGlobals mg bm ob)
    (aF : Df K mg "is_whole_below" bL ["thing", "many"] f1 bI) (bp : Df K mg "is_whole" dg ["thing"] f2 fd2) (bl : Bl mg) {tk : Tok} (gN : mg "MOST_PLACES" = some (.int 9 tk)) : FnOk P w K mg base bf 6 f fd ["thing"] (bj P w K tb HC) := by
  have BM := zW (P := P) (w := w) (tb := tb) fN gM hp ej aF bp bl
  refine eh D lQ (fun ds M Q E hS => by obtain ⟨d, e, _⟩ := hS; rw [e]; rfl) fun A outer s E Γ ds Q' E' hP hw hK ht hr hS => ?_
  obtain ⟨d, e, hk, q⟩ := hS
  have kA : bq ∈ Γ.tb := ht ▸ Om
  refine ⟨_, (ao (cw (QW.pt (mj (g8 (g7 (aG (gH (K := K) rfl) rfl bl.isinstance_ c7 (aa (qv 0) (aa (iM (v := .ty "tuple") rfl bl.tuple_ eF rfl) ah))))) (lz (g8 (sR wG wG av (aG (de (K := K) rfl hK) rfl bl.len_ PySem.boot_len (aa (qv 0) ah)) (Bo (i := 9) rfl gN ⟨_, rfl⟩))))))
      (aw (aX gp))
      qss_nil)
    (ao (aO (i := 1) lQ.nd rfl (Or.inr rfl) (aG (de (K := K) rfl hK) rfl bl.len_ PySem.boot_len (aa (qv 0) ah)))
    (ao (fu PassesOwn.never rfl (jW (K := K) rfl (sU (aa av (aa av ah)))) (fun oV eP ew eK et => by have hP := hP.trans eP.symm; have hw := hw.trans ew.symm; have hK := hK.trans eK.symm; have ht := ht.trans et.symm; have kA := et.symm ▸ kA; exact ⟨(aM (i := 2) lQ.nd rfl (Or.inr rfl)), (aw (cw (g7 (sZ (k := 4) (N' := ["row", "many", "width"]) (tn := 1) (idx := [1, 2]) kA (hr.mono (by decide)) rfl (show aE ["thing", "many", "width"] (ai ji) _ ["row", "many", "width"] 1 [1, 2] from by decide +kernel) rfl rfl kz.code kz.hd ej rfl bl.all_ (jW (K := K) rfl (qv 0)) (fun _ _ _ _ _ _ _ hr => (aM (i := 0) (show List.Nodup [("row" : Str), ("many" : Str), ("width" : Str)] from by decide +kernel) rfl (Or.inl rfl))) (fun _ _ _ _ _ _ _ hr => cI) (fun _ _ _ _ _ _ _ hr => (aI BM (hr.mono (by decide)) rfl fN.mg fN.fn.kp fN.bd bb hP hw hK ht XR.none (aa (qv 0) (aa (qv 1) (aa (qv 2) ah)))))))
      (aw (aX gp))
      qss_nil))⟩))
    (aw (aX gp))))), ?_⟩
  subst e
  cases d with
  | tup rs =>
    refine ⟨by decide, ?_⟩
    have row : ∀ (n : Nat) (D : Bool → Mh → Prop), (D (rs.all (gL rs.length n)) Γ.M0) → jx (zgName 0) zNoIf (zCall HB (fun _ _ => False) (zCons (zVar 0) (zCons (zVar 1) (zCons (zVar 2) zNil)))) rs [none, some (.int rs.length), some (.int (n : Nat))] Γ.M0 D := fun n D hD => by
      refine mB (gL rs.length n) (fun τ => ∃ x, τ = [x, some (.int rs.length), some (.int (n : Nat))]) ⟨none, rfl⟩ (fun d hd τ ⟨x, e⟩ R hR => ?_) hD
      subst e
      exact ⟨d, rs.length, n, rfl, List.all_eq_true.mp hk d hd, hR _ ⟨_, rfl⟩⟩
    simp! only []
    refine c4 (fun h1 => c4 (fun h2 => ?_) (fun h2 => ⟨by decide, ?_⟩)) (fun h1 => ?_)
    · rw [show jl (.tup rs) = false by simp at h1 h2; simp [jl]; intro z; omega] at q
      exact .inl q
    · have e : jl (.tup rs) = (rs.all (gL rs.length 2) || rs.all (gL rs.length 3)) := by
        simp at h1 h2
        simp only [jl]
        rw [decide_eq_true (by omega), Bool.true_and]
      rw [e] at q
      refine row 2 _ (c4 (fun z => ?_) (fun z => row 3 _ (c4 (fun z2 => ?_) (fun z2 => ?_))))
      · rw [z] at q; exact .inl q
      · rw [z, z2] at q; exact .inl q
      · rw [z, z2] at q; exact .inl q
    · rw [show jl (.tup rs) = false by simp at h1; simp [jl]; intro z; omega] at q
      exact .inl q
  | _ => first | exact ⟨by decide, .inl q⟩ | exact nomatch hk
theorem uC : aQ ["thing"] ["thing"] (ai iD) := ⟨rfl, rfl, rfl, by decide +kernel, rfl, by decide +kernel, by decide +kernel⟩
theorem zY {m : Int} {g : Int} (h : 0 ≤ g ∧ g < m) : cg m (.int g) = true := by simp [cg, h.1, h.2]
theorem D9 {af : List (List Int)} {n : Nat} (o : eu af n) : jl (eN af) = true := by
  have hr : ∀ d ∈ af.map eI, gL (af.map eI).length n d = true := fun d hd => by
    obtain ⟨r, hr, rfl⟩ := List.mem_map.mp hd
    obtain ⟨h1, h2⟩ := o.row r hr
    simp only [gL, List.length_map]
    rw [decide_eq_true h1, Bool.true_and, List.all_eq_true]
    intro d hd
    obtain ⟨g, hg, rfl⟩ := List.mem_map.mp hd
    exact zY (h2 g hg)
  have ho := o.one
  have hn := o.nine
  simp only [jl, eN]
  rw [decide_eq_true (by rw [List.length_map]; omega), Bool.true_and]
  have ha := List.all_eq_true.mpr hr
  rcases o.wid with rfl | rfl
  · rw [ha]; rfl
  · rw [ha, Bool.or_true]
theorem Ea (af : List (List Int)) : xh (eN af) = true := by
  simp only [xh, eN]
  rw [List.all_eq_true]
  intro d hd
  obtain ⟨r, _, rfl⟩ := List.mem_map.mp hd
  simp only [BL, eI]
  rw [List.all_eq_true]
  intro d hd
  obtain ⟨g, hg, rfl⟩ := List.mem_map.mp hd
  rfl
noncomputable def CW (C : Addr) : cJ := fun ds M Q E => ∃ d, ds = [d] ∧ xh d = true ∧ (jl d = true → Q .aq M) ∧ (jl d = false → E C M)
theorem uD {f f1 : Addr} {fd bI : FuncData} {C0 cj : Addr} {cs : List Addr} (D : Df K mg "need_net" iD ["thing"] f fd) (fO : Df K mg "is_net" ji ["thing"] f1 bI) (nH : FnOk P w K mg base bf 6 f1 bI ["thing"] (bj P w K tb HC))
    (X_ : Bf K C0 cs) (pQ : cj ∈ cs) (pR : mg "NoNet" = some (.ref cj)) : FnOk P w K mg base (gE P w) 7 f fd ["thing"] (bj P w K tb (CW cj)) := by
  refine wH D uC (fun ds M Q E hS => by obtain ⟨d, e, _⟩ := hS; rw [e]; rfl) fun A outer s E Γ ds Q' E' hP hw hK ht hE hr hS => ?_
  obtain ⟨d, e, hk, q1, q2⟩ := hS
  refine ⟨_, (aw (cw (g8 (g7 (aI nH (hr.mono (by decide)) rfl fO.mg fO.fn.kp fO.bd bb hP hw hK ht XR.none (aa (qv 0) ah))))
      (aw (sY (X_.ex _ pQ) PySem.F.excBase_ValueError rfl yQ hE rfl pR (aa ly ah)))
      qss_nil)), ?_⟩
  subst e
  simp! only []
  refine ⟨d, rfl, hk, c4 (fun h => ?_) (fun h => ?_)⟩
  · exact ⟨by decide, q2 (by simpa using h)⟩
  · exact .inl (q1 (by simpa using h))
end
noncomputable def pS (ns : List Int) : List Int := sortI (cO ns)
theorem nI {ns : List Int} {k : Int} : k ∈ pS ns ↔ k ∈ ns := (sortI_perm _).mem_iff.trans A0
theorem m4 (ns : List Int) : (pS ns).Pairwise (· < ·) := by
  have h1 := sI (cO ns)
  have h2 : (pS ns).Nodup := (sortI_perm _).nodup_iff.mpr (v7 ns)
  exact (List.Pairwise.and h1 h2).imp fun ⟨a, b⟩ => by omega
theorem oY : ∀ {a b : List Int}, a.Pairwise (· < ·) → b.Pairwise (· < ·) → (∀ k, k ∈ a ↔ k ∈ b) → a = b
  | [], [], _, _, _ => rfl
  | [], y :: b, _, _, h => by have := (h y).mpr List.mem_cons_self; cases this
  | x :: a, [], _, _, h => by have := (h x).mp List.mem_cons_self; cases this
  | x :: a, y :: b, ha, hb, h => by
    obtain ⟨KG, Oo⟩ := List.pairwise_cons.mp ha
    obtain ⟨ou, uX⟩ := List.pairwise_cons.mp hb
    have Oq : x = y := by
      rcases List.mem_cons.mp ((h x).mp List.mem_cons_self) with e | e
      · exact e
      · rcases List.mem_cons.mp ((h y).mpr List.mem_cons_self) with e' | e'
        · exact e'.symm
        · have := ou x e; have := KG y e'; omega
    subst Oq
    congr 1
    refine oY Oo uX fun k => ⟨fun hk => ?_, fun hk => ?_⟩
    · rcases List.mem_cons.mp ((h k).mp (List.mem_cons_of_mem _ hk)) with e | e
      · have := KG k hk; omega
      · exact e
    · rcases List.mem_cons.mp ((h k).mpr (List.mem_cons_of_mem _ hk)) with e | e
      · have := ou k hk; omega
      · exact e
theorem zZ {ns : List Int} (h : ns.Pairwise (· < ·)) : pS ns = ns := oY (m4 _) h fun _ => nI
structure dy (m : Nat) (ns : List Int) : Prop where
  str : ns.Pairwise (· < ·)
  rng : ∀ p ∈ ns, 0 ≤ p ∧ p < (m : Int)
  ne : ns ≠ []
theorem oZ {m : Nat} : ∀ {ns : List Int} {lo : Int}, ns.Pairwise (· < ·) → (∀ p ∈ ns, lo ≤ p ∧ p < (m : Int)) → (ns.length : Int) ≤ max 0 ((m : Int) - lo)
  | [], lo, _, _ => by simp; omega
  | x :: ns, lo, h, hr => by
    obtain ⟨h1, h2⟩ := List.pairwise_cons.mp h
    obtain ⟨r1, r2⟩ := hr x List.mem_cons_self
    have := oZ (lo := x + 1) h2 fun p hp => ⟨h1 p hp, (hr p (List.mem_cons_of_mem _ hp)).2⟩
    rw [List.length_cons]
    omega
theorem dy.len {m : Nat} {ns : List Int} (h : dy m ns) : ns.length ≤ m := by
  have := oZ (lo := 0) h.str h.rng
  omega
theorem xi (n : Nat) : (dD n).length = n := by simp [dD]
section
variable {P : Program} {w : World} {K : PySem.W.Frag} {mg : Str → Option Value} {base : Heap} {tb : cG}
theorem dI : aQ ["start", "width", "step", "most", "found", "queue", "met", "at", "goal"] ["start", "width", "step", "most"] (ai gT) := ⟨rfl, rfl, rfl, by decide +kernel, rfl, by decide +kernel, by decide +kernel⟩
noncomputable def z4 (bR : List Dv) (step : List Int → Nat → List Int) (U : List (List Int)) (n : Nat) : List Dv → cJ := fun Mb ds M Q _ => Mb = bR ∧ ∃ (p : List Int) (a : Nat), ds = [eI p, .int ((a : Nat) : Int)] ∧ p ∈ U ∧ a < n ∧ Q (eI (step p a)) M
noncomputable def kT (k : List Int) : List Key := k.map Sum.inl
theorem o3 (a b : List Int) (h : kT a = kT b) : a = b := by
  have := congrArg (List.map fun k : Key => match k with | .inl i => i | .inr _ => 0) h
  simpa [kT, List.map_map, Function.comp_def] using this
theorem kB (k : List Int) : iB (k.map Dv.int) = some (kT k) := oO k
noncomputable def xj (r : List (List Int) × List Str) : Dv := .dt (r.1.map kT) (r.2.map Dv.str)
noncomputable def vC (P : Program) (w : World) (K : PySem.W.Frag) (mg : Str → Option Value) (tb : cG) (base : Heap) : cJ := fun ds M Q _ => ∃ (s : List Int) (step : List Int → Nat → List Int) (U : List (List Int)) (n most : Nat) (f : Addr) (fd : FuncData) (o : Obj) (c : Addr) (oc : Obj) (vcs : List V) (bR : List Dv) (ps : List Str),
  ds = [eI s, .int (n : Nat), .bC f o c oc vcs bR, .int (most : Nat)] ∧ FnOk P w K mg base bf 6 f fd ps (CG P w K tb f o c oc vcs (z4 bR step U n)) ∧ (∃ oc od fd sl, o = ⟨oc, od, .func fd, sl⟩) ∧ Binds K fd ps [] ∧ n ≤ 3 ∧ s ∈ U ∧ (∀ k ∈ U, ∀ a, a < n → step k a ∈ U) ∧ U.length ≤ 10000 ∧
  Q (xj (met step n most U.length s)) M
theorem tU {f : Addr} {fd : FuncData} {dv : List Value} (D : CF K mg "first_met" gT ["start", "width", "step", "most"] dv f fd) (bl : Bl mg) {tk : Tok} (jm : mg "SIGNS" = some (.str "abc" tk)) :
    FnOk P w K mg base bf 7 f fd ["start", "width", "step", "most"] (bj P w K tb (vC P w K mg tb base)) := by
  refine Jl D dI (fun ds M Q E hS => by obtain ⟨s, step, U, n, most, f, fd, o, c, oc, vcs, bR, ps, e, _⟩ := hS; rw [e]; rfl) fun A outer s0 E Γ ds Q' E' hP hw hK ht hr hS => ?_
  obtain ⟨s, step, U, n, most, f, fd, o, c, oc, vcs, bR, ps, e, HD, HE, HF, hn, hs, hU, hl, q⟩ := hS
  refine ⟨_, (ao (aO (i := 4) dI.nd rfl (Or.inl rfl) (qT hr.units (qv 0) ly))
    (ao (aO (i := 5) dI.nd rfl (Or.inl rfl) (pF (aa (qv 0) ah)))
    (ao (nu PassesOwn.never (QW.pt (oG (Br (qv 5)) (mi (aW wG (aG Hq rfl bl.len_ PySem.boot_len (aa (qv 4) ah)) (qv 3) (bw _)))))
      (ao (aO (i := 6) dI.nd rfl (Or.inl rfl) (rJ (K := K) rfl PySem.F.plainAttrs_list PySem.F.slot_list_pop PySem.F.type_list_pop vf (qv 5) (aa av ah)))
    (aw (fu PassesOwn.never rfl (bH rfl bl.range_ (aa (qv 1) ah)) (fun oV eP ew eK et => by have hP := hP.trans eP.symm; have hw := hw.trans ew.symm; have hK := hK.trans eK.symm; have ht := ht.trans et.symm; exact ⟨(aM (i := 7) dI.nd rfl (Or.inl rfl)), (ao (aO (i := 8) dI.nd rfl (Or.inl rfl) (Bw (i := 2) HD HE (hr.mono (by decide)) rfl (Or.inl rfl) HF bb hP hw hK ht XR.none (aa (qv 6) (aa (qv 7) ah))))
    (aw (cw (aW (tI hr.units) (qv 8) (qv 4) (by rfl))
      (ao (vk hr.units (qv 4) (qv 8) (aR qM (D0 hr.units (qv 4) (qv 6) (fun _ _ => rfl)) (bN (c6 (K := K) rfl) (Bp (z := "abc") rfl jm ⟨_, rfl⟩) (qv 7) (fun _ _ => rfl))))
    (aw (mn (rJ (K := K) rfl PySem.F.plainAttrs_list PySem.F.slot_list_append PySem.F.type_list_append sX (qv 5) (aa (qv 8) ah)))))
      qss_nil)))⟩)))))
    (aw (aX (qv 4)))))), ?_⟩
  subst e
  simp! only [kB]
  intro a ha
  refine ⟨by decide, fun qq hq => ?_⟩
  have z5 : qq ≠ a := fun z => by rw [z, updM_same] at hq; cases hq
  have Ot : Γ.M0 qq = none := by rw [ak z5] at hq; exact hq
  have big : (10000 : Nat) + 10 < sizeLine := by decide
  have KH : ∀ {M : Mh}, (∀ b, b ≠ a → b ≠ qq → M b = Γ.M0 b) → Keeps Γ.M0 M := fun h b o e => by
    rw [h b (fun z => by rw [z, ha] at e; cases e) (fun z => by rw [z, Ot] at e; cases e)]; exact e
  let I : Nat → List (List Int) × List Str → aA → Mh → Prop := fun i st ρ M => (∃ x6 x7 x8, ρ = [some (eI s), some (.int (n : Nat)), some (.bC f o c oc vcs bR), some (.int (most : Nat)), some (.ptr a), some (.ptr qq), x6, x7, x8]) ∧ M a = some (.dt (st.1.map kT) (st.2.map Dv.str)) ∧ M qq = some (.lst ((st.1.drop i).map eI)) ∧ (∀ b, b ≠ a → b ≠ qq → M b = Γ.M0 b) ∧ eA U st ∧ i ≤ st.1.length
  refine ⟨fun m ρ M => ∃ i st, m = U.length + 1 - i ∧ I i st ρ M ∧ kM step n most (U.length + 1 - i) i st = met step n most U.length s, ⟨_, 0, ([s], [""]), rfl, ⟨⟨_, _, _, rfl⟩, by rw [ak (Ne.symm z5), updM_same]; rfl, updM_same, fun b h1 h2 => by rw [ak h2, ak h1], lK hs, Nat.zero_le _⟩, rfl⟩, ?_⟩
  rintro m ρ M ⟨i, st, rfl, ⟨⟨x6, x7, x8, rfl⟩, qY, Ou, oN, ok, hi⟩, hb⟩
  have hle := ok.le
  have KI := ok.len
  have fin : ∀ M', M' a = some (.dt (st.1.map kT) (st.2.map Dv.str)) → Keeps Γ.M0 M' → st = met step n most U.length s → jb Γ.M0 Q' (.ptr a) M' := fun M' h k e => .inr ⟨k, xj st, .dt ha h rfl fun j d d' e1 e2 => by
    rw [e1] at e2; cases e2
    obtain ⟨w, _, rfl⟩ := List.mem_map.mp (List.mem_of_getElem? e1)
    exact .pin (.str w), by rw [e]; exact q⟩
  have vD : U.length + 1 - i = (U.length - i) + 1 := by omega
  simp! only [qY, Ou]
  refine c4 (fun h1 => ?_) (fun h1 => ?_)
  · have aT : i < st.1.length := by
      rcases Nat.lt_or_ge i st.1.length with h | h
      · exact h
      · rw [List.drop_eq_nil_of_le h] at h1; cases h1
    obtain ⟨k, hk⟩ : ∃ k, st.1[i]? = some k := ⟨_, List.getElem?_eq_getElem aT⟩
    obtain ⟨wd, hV⟩ : ∃ wd, st.2[i]? = some wd := ⟨_, List.getElem?_eq_getElem (by omega)⟩
    have tV : k ∈ U := ok.sub k (List.mem_of_getElem? hk)
    refine c4 (fun h2 => ?_) (fun h2 => ?_)
    · have xk : st.1.length ≤ most := by simpa using h2
      have OG : (st.1.drop i).length = st.1.length - i := List.length_drop
      have Ov : seqIndex? 0 (st.1.drop i).length = some 0 := (by unfold seqIndex?; simp; omega)
      have e0 : ((st.1.drop i).map eI)[0]? = some (eI k) := by rw [ku hk]; rfl
      simp only [Ov, e0]
      refine ⟨by decide, by decide, by omega, by omega, ?_⟩
      have er : ((st.1.drop i).map eI).eraseIdx 0 = (st.1.drop (i + 1)).map eI := by rw [ku hk]; rfl
      simp only [er]
      refine da (fun j ρ M => (∃ x7 x8, ρ = [some (eI s), some (.int (n : Nat)), some (.bC f o c oc vcs bR), some (.int (most : Nat)), some (.ptr a), some (.ptr qq), some (eI k), x7, x8]) ∧ M a = some (.dt ((visit step k wd j st).1.map kT) ((visit step k wd j st).2.map Dv.str)) ∧ M qq = some (.lst (((visit step k wd j st).1.drop (i + 1)).map eI)) ∧ (∀ b, b ≠ a → b ≠ qq → M b = Γ.M0 b) ∧ j ≤ n)
        ⟨⟨_, _, rfl⟩, by rw [ak (Ne.symm z5)]; exact qY, updM_same, fun b h1 h2 => by rw [ak h2]; exact oN b h1 h2, Nat.zero_le _⟩ (fun j d ρ M N hd ⟨⟨x7, x8, e1⟩, lU, z6, o4, gj⟩ hN => ?_) (fun ρ M ⟨⟨x7, x8, e1⟩, lU, z6, o4, gj⟩ => ?_)
      · subst e1
        obtain ⟨rfl, hj⟩ := eR hd
        obtain ⟨gk, gw, g1, g2⟩ := gq step k wd j st
        have qZ := ok.visit (n := j) (step := step) (met := k) hV fun b hb => hU k tV b (by omega)
        have Ow := qZ.le
        have xl := qZ.len
        have KJ : (visit step k wd j st).1[i]? = some k := by rw [g1]; exact mD hk
        have z7 : (visit step k wd j st).2[i]? = some wd := by rw [g2]; exact mD hV
        have Hn := vy qZ.nd KJ z7
        have yh := qZ.wl i wd z7
        have Md : i < (visit step k wd j st).1.length := (List.getElem?_eq_some_iff.mp KJ).1
        simp! only []
        refine ⟨rfl, k, j, rfl, tV, hj, ?_⟩
        simp! only [eI, kB, lU, tP o3, Option.isSome_map, zO xl]
        have nx : ∀ {bD M'}, (∃ x7 x8, bD = [some (eI s), some (.int (n : Nat)), some (.bC f o c oc vcs bR), some (.int (most : Nat)), some (.ptr a), some (.ptr qq), some (eI k), x7, x8]) → M' a = some (.dt ((visit step k wd (j + 1) st).1.map kT) ((visit step k wd (j + 1) st).2.map Dv.str)) → M' qq = some (.lst (((visit step k wd (j + 1) st).1.drop (i + 1)).map eI)) → (∀ b, b ≠ a → b ≠ qq → M' b = Γ.M0 b) → N bD M' := fun h1 h2 h3 h4 => hN _ _ ⟨h1, h2, h3, h4, hj⟩
        have vs := iC step k wd j st
        refine c4 (fun hm => ?_) (fun hm => ?_)
        · have hm : step k j ∉ (visit step k wd j st).1 := by simpa using hm
          have hv : visit step k wd (j + 1) st = ((visit step k wd j st).1 ++ [step k j], (visit step k wd j st).2 ++ [wd ++ qV j]) := by rw [vs]; unfold gK; rw [if_neg hm]
          obtain ⟨p1, p2⟩ := vz (κ := List Key) (k := kT (step k j)) (d := Dv.str (wd ++ qV j)) (ks := (visit step k wd j st).1.map kT) (ds := (visit step k wd j st).2.map Dv.str) (fun z => hm ((jK o3).mp z))
          simp only [Hn, Option.map_some, vA (show j < 3 by omega)]
          refine ⟨by decide, by rw [show (⟨#[97 + j]⟩ : Str) = qV j from rfl, pP]; omega, by omega, ?_⟩
          rw [show (⟨#[97 + j]⟩ : Str) = qV j from rfl, p1, p2]
          simp only [ak z5, z6]
          refine ⟨trivial, by simp only [List.length_map, List.length_drop]; omega, nx ⟨_, _, rfl⟩ ?_ ?_ fun b h1 h2 => by rw [ak h2, ak h1]; exact o4 b h1 h2⟩
          · rw [ak (Ne.symm z5), updM_same, hv, List.map_append, List.map_append]; rfl
          · rw [updM_same, hv]
            show some (Mo.lst (_ ++ [_])) = _
            rw [List.drop_append_of_le_length (by omega), List.map_append]; rfl
        · have hm : step k j ∈ (visit step k wd j st).1 := by simpa using hm
          have hv : visit step k wd (j + 1) st = visit step k wd j st := by rw [vs]; unfold gK; rw [if_pos hm]
          exact nx ⟨_, _, rfl⟩ (by rw [hv]; exact lU) (by rw [hv]; exact z6) o4
      · subst e1
        have HG : (cf 0 n).length = n := rangeD_len 0 n
        rw [HG] at lU z6 gj
        have HH := ok.visit (n := n) (step := step) (met := k) hV fun b hb => hU k tV b hb
        obtain ⟨gk, gw, g1, g2⟩ := gq step k wd n st
        refine ⟨U.length + 1 - (i + 1), by omega, i + 1, visit step k wd n st, rfl, ⟨⟨_, _, _, rfl⟩, lU, z6, o4, HH, by rw [g1, List.length_append]; omega⟩, ?_⟩
        rw [← hb, vD, zN hk hV xk]
        rw [show U.length + 1 - (i + 1) = U.length - i by omega]
    · refine fin M qY (KH oN) ?_
      have xk : ¬ st.1.length ≤ most := by simpa using h2
      rw [← hb, vD]
      unfold kM
      simp only [hk, hV, if_neg xk]
  · refine fin M qY (KH oN) ?_
    have h : st.1.length ≤ i := by
      rcases Nat.lt_or_ge i st.1.length with h | h
      · rw [ku (List.getElem?_eq_getElem h)] at h1; cases h1
      · exact h
    rw [← hb, vD]
    unfold kM
    have e1 : st.1[i]? = none := List.getElem?_eq_none h
    simp only [e1]
end
noncomputable def tW (st : Stmt) : Expr := match bz st with | [.Return (some (.Call _ (_ :: _ :: l :: _) _ _)) _] => l | _ => .Constant .none 0 ⟨0, 0, 0, 0⟩
noncomputable def lP (st : Stmt) : Arguments := match tW st with | .Lambda p _ _ _ => p | _ => ⟨[], [], none, [], [], none, []⟩
noncomputable def lB (st : Stmt) : Expr := match tW st with | .Lambda _ b _ _ => b | e => e
noncomputable def lS (st : Stmt) : Scope := match tW st with | .Lambda _ _ s _ => s | _ => ai st
noncomputable def fX (af : List (List Int)) : List Int := (List.range af.length).map fun i : Nat => (i : Int)
noncomputable def fA (af : List (List Int)) (p : Int) (a : Nat) : Int := (af.getD p.toNat []).getD a 0
theorem cx {af : List (List Int)} {p : Int} : p ∈ fX af ↔ 0 ≤ p ∧ p < (af.length : Int) := by
  unfold fX
  rw [List.mem_map]
  constructor
  · rintro ⟨i, hi, rfl⟩
    have := List.mem_range.mp hi
    omega
  · rintro ⟨h1, h2⟩
    exact ⟨p.toNat, List.mem_range.mpr (by omega), by omega⟩
theorem getD_at {α : Type} {l : List α} {i : Nat} {d : α} (h : i < l.length) : l.getD i d = l[i] := by rw [List.getD_eq_getElem?_getD, List.getElem?_eq_getElem h]; rfl
theorem BO {af : List (List Int)} {n : Nat} (o : eu af n) {p : Int} (hp : p ∈ fX af) {a : Nat} (ha : a < n) : fA af p a ∈ fX af := by
  obtain ⟨h1, h2⟩ := cx.mp hp
  have aT : p.toNat < af.length := by omega
  obtain ⟨e1, e2⟩ := o.row af[p.toNat] (List.getElem_mem aT)
  unfold fA
  rw [getD_at aT, getD_at (by omega)]
  exact cx.mpr (e2 _ (List.getElem_mem _))
theorem o5 {af : List (List Int)} {p : Int} (hp : p ∈ fX af) : cZ (af.map eI) p = some (eI (af.getD p.toNat [])) := by
  obtain ⟨h1, h2⟩ := cx.mp hp
  have aT : p.toNat < af.length := by omega
  have e : p = ((p.toNat : Nat) : Int) := by omega
  rw [e]
  refine dB ?_
  rw [List.getElem?_map, Int.toNat_natCast, List.getD_eq_getElem?_getD, List.getElem?_eq_getElem aT]
  rfl
theorem z8 {af : List (List Int)} {n : Nat} (o : eu af n) {p : Int} (hp : p ∈ fX af) {a : Nat} (ha : a < n) : cZ ((af.getD p.toNat []).map Dv.int) ((a : Nat) : Int) = some (.int (fA af p a)) := by
  obtain ⟨h1, h2⟩ := cx.mp hp
  have aT : p.toNat < af.length := by omega
  have e1 := (o.row af[p.toNat] (List.getElem_mem aT)).1
  refine dB ?_
  unfold fA
  rw [List.getElem?_map, getD_at aT, getD_at (by omega), List.getElem?_eq_getElem (by omega)]
  rfl
noncomputable def e8 : List Int → List (List Int)
  | [] => [[]]
  | x :: xs => e8 xs ++ (e8 xs).map (x :: ·)
theorem q9 : ∀ xs : List Int, (e8 xs).length = 2 ^ xs.length
  | [] => rfl
  | x :: xs => by rw [e8, List.length_append, List.length_map, q9 xs, List.length_cons, Nat.pow_succ]; omega
theorem lV : ∀ xs : List Int, [] ∈ e8 xs
  | [] => List.mem_singleton.mpr rfl
  | x :: xs => List.mem_append_left _ (lV xs)
theorem lW : ∀ {xs ns : List Int}, xs.Pairwise (· < ·) → ns.Pairwise (· < ·) → (∀ p ∈ ns, p ∈ xs) → ns ∈ e8 xs
  | [], ns, _, _, h => by
    cases ns with
    | nil => exact List.mem_singleton.mpr rfl
    | cons y ns => exact absurd (h y List.mem_cons_self) (by simp)
  | x :: xs, [], _, _, _ => lV _
  | x :: xs, y :: ns, hx, hn, h => by
    obtain ⟨x1, x2⟩ := List.pairwise_cons.mp hx
    obtain ⟨n1, n2⟩ := List.pairwise_cons.mp hn
    have ge : ∀ p ∈ y :: ns, p ≠ x → p ∈ xs := fun p hp ne => by
      rcases List.mem_cons.mp (h p hp) with z | z
      · exact absurd z ne
      · exact z
    by_cases e : y = x
    · subst e
      refine List.mem_append_right _ (List.mem_map.mpr ⟨ns, lW x2 n2 fun p hp => ge p (List.mem_cons_of_mem _ hp) fun z => ?_, rfl⟩)
      have := n1 p hp
      omega
    · refine List.mem_append_left _ (lW x2 hn fun p hp => ge p hp fun z => ?_)
      have hy := x1 y (ge y List.mem_cons_self e)
      rcases List.mem_cons.mp hp with q | q
      · omega
      · have := n1 p q
        omega
noncomputable def dz (m : Nat) : List (List Int) := (e8 (dD m)).erase []
theorem ra {m : Nat} (h : m ≤ 9) : (dz m).length ≤ 511 := by
  unfold dz
  rw [List.length_erase_of_mem (lV _), q9, xi]
  have : 2 ^ m ≤ 2 ^ 9 := Nat.pow_le_pow_right (by omega) h
  omega
theorem ib (m : Nat) : (dD m).Pairwise (· < ·) := by
  unfold dD
  exact List.pairwise_map.mpr (List.pairwise_lt_range.imp fun h => by omega)
theorem iL {m : Nat} {p : Int} : p ∈ dD m ↔ 0 ≤ p ∧ p < (m : Int) := by
  unfold dD
  rw [List.mem_map]
  constructor
  · rintro ⟨i, hi, rfl⟩
    have := List.mem_range.mp hi
    omega
  · rintro ⟨h1, h2⟩
    exact ⟨p.toNat, List.mem_range.mpr (by omega), by omega⟩
theorem jG {m : Nat} {ns : List Int} : ns ∈ dz m → dy m ns := fun h => by
  have nd : (e8 (dD m)).Nodup ∧ ∀ k ∈ e8 (dD m), k.Pairwise (· < ·) ∧ ∀ p ∈ k, p ∈ dD m := by
    have key : ∀ xs : List Int, xs.Pairwise (· < ·) → (e8 xs).Nodup ∧ ∀ k ∈ e8 xs, k.Pairwise (· < ·) ∧ ∀ p ∈ k, p ∈ xs := by
      intro xs
      induction xs with
      | nil => exact fun _ => ⟨by simp [e8], fun k hk => by rw [List.mem_singleton.mp hk]; exact ⟨.nil, fun _ h => nomatch h⟩⟩
      | cons x xs ih =>
        intro h
        obtain ⟨x1, x2⟩ := List.pairwise_cons.mp h
        obtain ⟨i1, i2⟩ := ih x2
        refine ⟨?_, fun k hk => ?_⟩
        · rw [e8, List.nodup_append]
          refine ⟨i1, List.pairwise_map.mpr (i1.imp fun h e => h (List.cons.inj e).2), fun a ha b hb e => ?_⟩
          obtain ⟨c, hc, rfl⟩ := List.mem_map.mp hb
          have := x1 x ((i2 a ha).2 x (by rw [e]; exact List.mem_cons_self))
          omega
        · rcases List.mem_append.mp hk with z | z
          · exact ⟨(i2 k z).1, fun p hp => List.mem_cons_of_mem _ ((i2 k z).2 p hp)⟩
          · obtain ⟨c, hc, rfl⟩ := List.mem_map.mp z
            refine ⟨List.pairwise_cons.mpr ⟨fun p hp => x1 p ((i2 c hc).2 p hp), (i2 c hc).1⟩, fun p hp => ?_⟩
            rcases List.mem_cons.mp hp with z | z
            · rw [z]; exact List.mem_cons_self
            · exact List.mem_cons_of_mem _ ((i2 c hc).2 p z)
    exact key _ (ib m)
  unfold dz at h
  have h' := (List.Nodup.mem_erase_iff nd.1).mp h
  exact ⟨(nd.2 ns h'.2).1, fun p hp => iL.mp ((nd.2 ns h'.2).2 p hp), h'.1⟩
theorem eT {m : Nat} {ns : List Int} (h : dy m ns) : ns ∈ dz m := (List.mem_erase_of_ne h.ne).mpr (lW (ib m) h.str fun p hp => iL.mpr (h.rng p hp))
noncomputable def bG (af : List (List Int)) (ps : List Int) (a : Nat) : List Int := pS (ps.map fun p => fA af p a)
theorem o6 {af : List (List Int)} {n : Nat} (O : eu af n) {ps : List Int} (h : dy af.length ps) {a : Nat} (ha : a < n) : dy af.length (bG af ps a) := by
  refine ⟨m4 _, fun p hp => ?_, fun e => ?_⟩
  · obtain ⟨q, hq, rfl⟩ := List.mem_map.mp (nI.mp hp)
    exact cx.mp (BO O (cx.mpr (h.rng q hq)) ha)
  · cases ps with
    | nil => exact h.ne rfl
    | cons p ps =>
      have : fA af p a ∈ bG af (p :: ps) a := nI.mpr (List.mem_map.mpr ⟨p, List.mem_cons_self, rfl⟩)
      rw [e] at this
      cases this
section
variable {P : Program} {w : World} {K : PySem.W.Frag} {mg : Str → Option Value} {base : Heap} {tb : cG}
theorem rp : aQ ["net", "places", "at"] ["net", "places", "at"] (ai dE) := ⟨rfl, rfl, rfl, by decide +kernel, rfl, by decide +kernel, by decide +kernel⟩
theorem rq : aQ ["net", "places"] ["net", "places"] (ai aC) := ⟨rfl, rfl, rfl, by decide +kernel, rfl, by decide +kernel, by decide +kernel⟩
noncomputable def qI : Str := ("images_met" ++ ".<locals>." : Str) ++ "<lambda>"
noncomputable def xm : cJ := fun ds M Q _ => ∃ af n ps a, ds = [eN af, eI ps, .int ((a : Nat) : Int)] ∧ eu af n ∧ dy af.length ps ∧ a < n ∧ Q (eI (bG af ps a)) M
noncomputable def rN (af : List (List Int)) (a : Nat) : Dv → Int | .int p => fA af p a | _ => 0
theorem z9 (af : List (List Int)) (a : Nat) (ps : List Int) : (ps.map Dv.int).map (rN af a) = ps.map fun p => fA af p a := by rw [List.map_map]; rfl
theorem rA {f : Addr} {fd : FuncData} (D : Df K mg "sign_image" dE ["net", "places", "at"] f fd) (bl : Bl mg) : FnOk P w K mg base bf 1 f fd ["net", "places", "at"] (bj P w K tb xm) := by
  refine eh D rp (fun ds M Q E hS => by obtain ⟨af, n, ps, a, e, _⟩ := hS; rw [e]; rfl) fun A outer s0 E Γ ds Q' E' hP hw hK ht hr hS => ?_
  obtain ⟨af, n, ps, a, e, O, hS, ha, q⟩ := hS
  refine ⟨_, (aw (aX (dO (j1 (K := K) rfl) rfl bl.tuple_ eF (aa (aG (nB hP hw (K := K) rfl rfl) rfl bl.sorted_ lg (aa (wI hP hw (N' := ["place", "at", "net"]) (tn := 1) (idx := [2, 0]) rfl (show aE ["net", "places", "at"] (ai dE) _ ["place", "at", "net"] 1 [2, 0] from by decide +kernel) (jW (K := K) rfl (qv 1)) (fun _ _ _ _ _ => (aM (i := 0) (show List.Nodup [("place" : Str), ("at" : Str), ("net" : Str)] from by decide +kernel) rfl (Or.inl rfl))) (fun _ _ _ _ _ => cI) (fun _ _ _ _ _ => (bN (c6 (K := K) rfl) (bN (c6 (K := K) rfl) (qv 2) (qv 0) (fun _ _ => rfl)) (qv 1) (fun _ _ => rfl)))) ah)) ah)))), ?_⟩
  subst e
  have h9 := O.nine
  have hl := hS.len
  simp! only []
  refine vh (rN af a) (fun τ M => (∃ x, τ = [x, some (.int (a : Nat)), some (eN af)]) ∧ M = Γ.M0) ⟨⟨_, rfl⟩, rfl⟩ (Nat.lt_of_le_of_lt (show _ ≤ 21 by simp only [List.length_nil, List.length_map]; omega) (by decide)) (fun d hd τ M ⟨⟨x, e⟩, eM⟩ R hR => ?_) (fun τ M ⟨⟨x, e⟩, eM⟩ => ?_)
  · subst e eM
    obtain ⟨p, hp, rfl⟩ := List.mem_map.mp hd
    have bQ := cx.mpr (hS.rng p hp)
    simp! only [o5 bQ, z8 O bQ ha]
    exact hR _ _ ⟨⟨_, rfl⟩, rfl⟩
  · subst e eM
    rw [z9]
    have := ka (ps.map fun p => fA af p a)
    rw [List.length_map] at this
    exact ⟨Nat.lt_of_le_of_lt (show (cO (ps.map fun p => fA af p a)).length ≤ 9 by omega) (by decide), .inl q⟩
theorem pT : kq ["met", "at"] ["net"] (lS aC) := ⟨rfl, rfl, rfl, by decide +kernel, by decide +kernel, by decide +kernel, by decide +kernel⟩
theorem xn {f c f1 : Addr} {fd bI : FuncData} {o oc : Obj} {aN : List (Str × Addr)} {vcs : List V} (L : wQ (lP aC) (lB aC) (lS aC) qI o c oc aN fd) (C : pN base ["net"] aN vcs) (cP : vcs.length = 1) {af : List (List Int)} {n : Nat} (O : eu af n)
    (cD : Df K mg "sign_image" dE ["net", "places", "at"] f1 bI) (bl : Bl mg) :
    FnOk P w K mg base bf 2 f fd ["met", "at"] (CG P w K tb f o c oc vcs (z4 [eN af] (bG af) (dz af.length) n)) := by
  have tX := rA (P := P) (w := w) (base := base) (tb := tb) cD bl
  refine LX L pT C cP (fun bR ds M Q E hS => by obtain ⟨_, p, a, e, _⟩ := hS; rw [e]; rfl) fun A outer s E Γ bR ds Q' E' hP hw hK ht hr hS => ?_
  obtain ⟨e0, p, a, e, hp, ha, q⟩ := hS
  refine ⟨_, (aI tX (hr.mono (by decide)) rfl cD.mg cD.fn.kp cD.bd bb hP hw hK ht XR.none (aa (qv 2) (aa (qv 0) (aa (qv 1) ah)))), ?_⟩
  subst e e0
  simp! only []
  exact ⟨af, n, p, a, rfl, O, jG hp, ha, .inl q⟩
theorem nJ : ∀ n, (n, NameKind.free) ∈ (lS aC).names → (ai aC).names.lookup n = some .cell ∨ (ai aC).names.lookup n = some .free := by
  have h : ∀ y ∈ (lS aC).names, y.2 = NameKind.free → (ai aC).names.lookup y.1 = some .cell := by decide +kernel
  exact fun n hn => .inl (h _ hn rfl)
theorem pU : ∀ (j : Nat) (n : Str), (["net"] : List Str)[j]? = some n → (n, NameKind.free) ∈ (lS aC).names ∧ (ai aC).names.lookup n = some .cell ∧ ∃ i, ([0] : List Nat)[j]? = some i ∧ (["net", "places"] : List Str)[i]? = some n := fun j n h => by
  cases j with
  | zero => cases h; exact ⟨by decide +kernel, by decide +kernel, 0, rfl, rfl⟩
  | succ j => simp at h
noncomputable def gO (af : List (List Int)) (n : Nat) (s : List Int) : List (List Int) × List Str := met (bG af) n 511 (dz af.length).length s
noncomputable def CY : cJ := fun ds M Q _ => ∃ af n s, ds = [eN af, eI s] ∧ eu af n ∧ dy af.length s ∧ Q (xj (gO af n s)) M
theorem rB {f f1 : Addr} {fd bI : FuncData} {lX aJ : Addr} {tk0 : Tok} (D : Df K mg "images_met" aC ["net", "places"] f fd) (gy : uU base fd lX aJ) (ej : ∃ bm ob, BMod base mainGlobals mg bm ob)
    (qu : (aJ, qI) ∈ tb.l) (Hj : ∀ q ∈ tb.l, q.1 = aJ → q.2 = qI) (d9 : CF K mg "first_met" gT ["start", "width", "step", "most"] [.int 511 tk0] f1 bI) {f2 : Addr} {fd2 : FuncData} (cD : Df K mg "sign_image" dE ["net", "places", "at"] f2 fd2) (bl : Bl mg) {tk : Tok} (jm : mg "SIGNS" = some (.str "abc" tk)) :
    FnOk P w K mg base bf 8 f fd ["net", "places"] (bj P w K tb CY) := by
  refine eh D rq (fun ds M Q E hS => by obtain ⟨af, n, s, e, _⟩ := hS; rw [e]; rfl) fun A outer s0 E Γ ds Q' E' hP hw hK ht hr hS => ?_
  obtain ⟨af, n, s, e, O, hs, q⟩ := hS
  have gP : (aJ, qI) ∈ Γ.tb.l := ht ▸ qu
  have gQ : ∀ q ∈ Γ.tb.l, q.1 = aJ → q.2 = qI := ht ▸ Hj
  have uE : ∀ b', (∀ b o, base.get? b = some o → b'.get? b = some o) → FnOk P w K mg b' bf 7 f1 bI ["start", "width", "step", "most"] (bj P w K tb (vC P w K mg tb b')) := fun b' _ => tU d9 bl jm
  have tY : Vals [V.int 511] [Value.int 511 tk0] := .cons ⟨_, rfl⟩ .nil
  have tZ : ∀ (β : Bz) (M : Mh) (H : Hp), aD β M H [V.int 511] [Dv.int 511] := fun _ _ _ => .cons (.int _) .nil
  refine ⟨_, (aw (aX (wR (idx := [0]) (fs := ["net"]) gy.code gy.hd ej rfl (nJ) (pU) gP gQ uE (hr.mono (by decide)) (fun _ => rfl) rfl d9.mg d9.kp d9.bd (tY) (tZ) bb hP hw hK ht XR.none (qv 1) (aG (de (K := K) rfl hK) rfl bl.len_ PySem.boot_len (aa (bN (c6 (K := K) rfl) (qv 0) av (fun _ _ => rfl)) ah)) ah))), ?_⟩
  subst e
  have h1 := O.one
  have h0 : (0 : Int) ∈ fX af := cx.mpr ⟨by omega, by omega⟩
  have zR : (af.getD 0 []).length = n := by
    have := O.one
    rw [getD_at (by omega)]
    exact (O.row _ (List.getElem_mem _)).1
  have Ox := O.wid
  simp! only [tL, oR, o5 h0, Int.toNat_zero, zR]
  intro lf o c oc aN vcs lv hO b' hb hC
  obtain ⟨Oy, m6, ⟨iu, rfl⟩, fw⟩ := hO
  have L : wQ (lP aC) (lB aC) (lS aC) qI (PySem.W.kla_obj "<lambda>" qI (lP aC) (lB aC) (lS aC) aN ((mg "__name__").getD .none) c iu) c oc aN (PySem.W.kla_fn "<lambda>" qI (lP aC) (lB aC) (lS aC) aN ((mg "__name__").getD .none) (.ref c) iu) := ⟨m6, ⟨_, _, _, rfl, rfl⟩, fw⟩
  refine ⟨s, bG af, dz af.length, n, 511, lf, _, _, c, oc, vcs, [eN af], ["met", "at"], rfl, (xn L hC lv O cD bl).mono (by decide), ⟨_, _, _, _, rfl⟩, .all fun us hl => ?_, by omega, eT hs, fun k hk a ha => eT (o6 O (jG hk) ha), ?_, .inl q⟩
  · match us, hl with
    | [_, _], _ => rfl
  · have := ra O.nine
    omega
end
section
variable {P : Program} {w : World} {K : PySem.W.Frag} {mg : Str → Option Value} {base : Heap} {tb : cG} {cj BP cL C0 : Addr} {cs : List Addr}
noncomputable def HI : cJ := fun ds M Q _ => ∃ af d, ds = [eN af, d] ∧ lR d = true ∧ Q (.bl (cg (af.length : Int) d)) M
theorem uF : aQ ["net", "thing"] ["net", "thing"] (ai iE) := ⟨rfl, rfl, rfl, by decide +kernel, rfl, by decide +kernel, by decide +kernel⟩
theorem Aa : aQ ["net", "thing"] ["net", "thing"] (ai jj) := ⟨rfl, rfl, rfl, by decide +kernel, rfl, by decide +kernel, by decide +kernel⟩
theorem uG {f f1 f2 : Addr} {fd bI fd2 : FuncData} (D : Df K mg "is_place" iE ["net", "thing"] f fd) (aF : Df K mg "is_whole_below" bL ["thing", "many"] f1 bI) (bp : Df K mg "is_whole" dg ["thing"] f2 fd2) (bl : Bl mg) : FnOk P w K mg base bf 3 f fd ["net", "thing"] (bj P w K tb HI) := by
  have fM := iw (P := P) (w := w) (base := base) (tb := tb) aF bp bl
  refine eh D uF (fun ds M Q E hS => by obtain ⟨af, d, e, _⟩ := hS; rw [e]; rfl) fun A outer s E Γ ds Q' E' hP hw hK ht hr hS => ?_
  obtain ⟨af, d, e, hk, q⟩ := hS
  refine ⟨_, (aw (aX (aI fM (hr.mono (by decide)) rfl aF.mg aF.fn.kp aF.bd bb hP hw hK ht XR.none (aa (qv 1) (aa (aG (de (K := K) rfl hK) rfl bl.len_ PySem.boot_len (aa (qv 0) ah)) ah))))), ?_⟩
  subst e
  simp! only []
  exact ⟨d, _, rfl, hk, .inl q⟩
theorem Ab {m : Int} {d : Dv} (h : cg m d = true) : ∃ i, d = .int i ∧ 0 ≤ i ∧ i < m := by
  cases d with
  | int i => simp only [cg, Bool.and_eq_true, decide_eq_true_eq] at h; exact ⟨i, rfl, h.1, h.2⟩
  | _ => cases h
theorem rg {m : Int} : ∀ {ds : List Dv}, ds.all (cg m) = true → ∃ ns : List Int, ds = ns.map Dv.int ∧ ∀ p ∈ ns, 0 ≤ p ∧ p < m
  | [], _ => ⟨[], rfl, fun _ h => nomatch h⟩
  | d :: ds, h => by
    rw [List.all_cons, Bool.and_eq_true] at h
    obtain ⟨i, rfl, h0, h1⟩ := Ab h.1
    obtain ⟨ns, rfl, hn⟩ := rg h.2
    exact ⟨i :: ns, rfl, fun p hp => by rcases List.mem_cons.mp hp with rfl | hp; exact ⟨h0, h1⟩; exact hn p hp⟩
noncomputable def xo (ds : List Dv) : Bool := match eY ds with | some ns => decide (ns = pS ns) | none => false
noncomputable def nK (m : Nat) : Dv → Bool | .tup ds => !decide (ds.length = 0) && ds.all (cg m) && xo ds | _ => false
noncomputable def BQ : Dv → Prop | .tup ds => (∀ d ∈ ds, lR d = true) ∧ ds.length ≤ 20 | d => lR d = true
theorem eQ : ∀ ns : List Int, eY (ns.map Dv.int) = some ns
  | [] => rfl
  | n :: ns => by rw [List.map_cons, eY, eQ ns]; rfl
noncomputable def Ac : cJ := fun ds M Q _ => ∃ af n d, ds = [eN af, d] ∧ eu af n ∧ BQ d ∧ Q (.bl (nK af.length d)) M
theorem Ad {f f1 f2 f3 : Addr} {fd bI fd2 mZ : FuncData} {t5 bt : Addr} (D : Df K mg "is_set" jj ["net", "thing"] f fd) (kC : uU base fd t5 bt) (hp : bt ∈ tb) (ej : ∃ bm ob, BMod base mainGlobals mg bm ob)
    (fb : Df K mg "is_place" iE ["net", "thing"] f3 mZ) (aF : Df K mg "is_whole_below" bL ["thing", "many"] f1 bI) (bp : Df K mg "is_whole" dg ["thing"] f2 fd2) (bl : Bl mg) : FnOk P w K mg base bf 5 f fd ["net", "thing"] (bj P w K tb Ac) := by
  have xq := uG (P := P) (w := w) (base := base) (tb := tb) fb aF bp bl
  refine eh D Aa (fun ds M Q E hS => by obtain ⟨af, n, d, e, _⟩ := hS; rw [e]; rfl) fun A outer s E Γ ds Q' E' hP hw hK ht hr hS => ?_
  obtain ⟨af, n, d, e, o, hk, q⟩ := hS
  have xr : bt ∈ Γ.tb := ht ▸ hp
  refine ⟨_, (ao (cw (QW.pt (mj (g8 (g7 (aG (gH (K := K) rfl) rfl bl.isinstance_ c7 (aa (qv 1) (aa (iM (v := .ty "tuple") rfl bl.tuple_ eF rfl) ah))))) (lz (aW ia (aG (de (K := K) rfl hK) rfl bl.len_ PySem.boot_len (aa (qv 1) ah)) av (bw _)))))
      (aw (aX gp))
      qss_nil)
    (aw (aX (sT (sZ (k := 3) (N' := ["place", "net"]) (tn := 1) (idx := [0]) xr (hr.mono (by decide)) rfl (show aE ["net", "thing"] (ai jj) _ ["place", "net"] 1 [0] from by decide +kernel) rfl rfl kC.code kC.hd ej rfl bl.all_ (jW (K := K) rfl (qv 1)) (fun _ _ _ _ _ _ _ hr => (aM (i := 0) (show List.Nodup [("place" : Str), ("net" : Str)] from by decide +kernel) rfl (Or.inl rfl))) (fun _ _ _ _ _ _ _ hr => cI) (fun _ _ _ _ _ _ _ hr => (aI xq (hr.mono (by decide)) rfl fb.mg fb.fn.kp fb.bd bb hP hw hK ht XR.none (aa (qv 1) (aa (qv 0) ah))))) (sS (DP (Jh hr.units) (dO (GR (K := K) rfl) rfl bl.list_ Du (aa (qv 1) ah)) (aG (nB hP hw (K := K) rfl rfl) rfl bl.sorted_ lg (aa (dO (Cz hP hw (K := K) rfl rfl) rfl bl.set_ yM (aa (qv 1) ah)) ah)) (bw _))))))), ?_⟩
  subst e
  cases d with
  | tup es =>
    obtain ⟨hk, hl⟩ := hk
    simp! only []
    refine ⟨by decide, c4 (fun h => ?_) (fun h => ?_)⟩
    · simp only [nK, show decide (es.length = 0) = true by simp at h ⊢; omega, Bool.not_true, Bool.false_and] at q
      exact .inl q
    · simp only [nK, show decide (es.length = 0) = false by simp at h ⊢; omega, Bool.not_false, Bool.true_and] at q
      refine mB (cg (af.length : Int)) (fun τ => ∃ x, τ = [x, some (eN af)]) ⟨none, rfl⟩ (fun d hd τ ⟨x, e⟩ R hR => ?_) ?_
      · subst e
        exact ⟨af, d, rfl, hk d hd, hR _ ⟨_, rfl⟩⟩
      · cases hb : es.all (cg (af.length : Int)) with
        | false => rw [hb] at q; exact .inl q
        | true =>
          rw [hb] at q
          obtain ⟨ns, rfl, hn⟩ := rg hb
          rw [List.length_map] at hl
          simp! only [eQ, Option.bind_some]
          have hd := (ka (ns := ns))
          refine ⟨Nat.lt_of_le_of_lt (show ns.length + 1 ≤ 21 by omega) (by decide), by omega, ?_⟩
          simp only [ny, now, bU, tj, Option.map_some, c0, oM, Bool.false_eq_true, if_false]
          refine ⟨by rw [iq]; have := DV ns; omega, ?_⟩
          simp only [xo, eQ, Bool.true_and] at q
          exact .inl q
  | _ => first | exact ⟨by decide, .inl q⟩ | exact nomatch hk
theorem Eb {m : Nat} {ns : List Int} (h : dy m ns) : nK m (eI ns) = true := by
  have hl := h.ne
  have h1 : ¬ ns.length = 0 := fun e => hl (List.eq_nil_of_length_eq_zero e)
  simp only [nK, List.length_map, h1, decide_false, Bool.not_false, Bool.true_and, Bool.and_eq_true, xo, eQ, decide_eq_true_eq]
  refine ⟨List.all_eq_true.mpr fun d hd => ?_, (zZ h.str).symm⟩
  obtain ⟨p, hp, rfl⟩ := List.mem_map.mp hd
  have := h.rng p hp
  simp only [cg, Bool.and_eq_true, decide_eq_true_eq]
  exact this
theorem Ec {m : Nat} (hm : m ≤ 9) {ns : List Int} (h : dy m ns) : BQ (eI ns) := ⟨fun d hd => by obtain ⟨p, _, rfl⟩ := List.mem_map.mp hd; rfl, by rw [List.length_map]; have := h.len; omega⟩
end
section
variable {P : Program} {w : World} {K : PySem.W.Frag} {mg : Str → Option Value} {base : Heap} {tb : cG} {cj BP cL C0 : Addr} {cs : List Addr}
theorem uH : aQ ["net", "thing"] ["net", "thing"] (ai iF) := ⟨rfl, rfl, rfl, by decide +kernel, rfl, by decide +kernel, by decide +kernel⟩
noncomputable def t6 (C : Addr) : cJ := fun ds M Q E => ∃ af n d, ds = [eN af, d] ∧ eu af n ∧ BQ d ∧ (nK af.length d = true → Q .aq M) ∧ (nK af.length d = false → E C M)
theorem uI {f f1 : Addr} {fd bI : FuncData} (D : Df K mg "need_set" iF ["net", "thing"] f fd) (fP : Df K mg "is_set" jj ["net", "thing"] f1 bI) (nL : FnOk P w K mg base bf 5 f1 bI ["net", "thing"] (bj P w K tb Ac))
    (X_ : Bf K C0 cs) (pV : cL ∈ cs) (pW : mg "NoSet" = some (.ref cL)) : FnOk P w K mg base (gE P w) 6 f fd ["net", "thing"] (bj P w K tb (t6 cL)) := by
  refine wH D uH (fun ds M Q E hS => by obtain ⟨af, n, d, e, _⟩ := hS; rw [e]; rfl) fun A outer s E Γ ds Q' E' hP hw hK ht hE hr hS => ?_
  obtain ⟨af, n, d, e, o, hk, q1, q2⟩ := hS
  refine ⟨_, (aw (cw (g8 (g7 (aI nL (hr.mono (by decide)) rfl fP.mg fP.fn.kp fP.bd bb hP hw hK ht XR.none (aa (qv 0) (aa (qv 1) ah)))))
      (aw (sY (X_.ex _ pV) PySem.F.excBase_ValueError rfl yQ hE rfl pW (aa ly ah)))
      qss_nil)), ?_⟩
  subst e
  simp! only []
  refine ⟨af, n, d, rfl, o, hk, c4 (fun h => ?_) (fun h => ?_)⟩
  · exact ⟨by decide, q2 (by simpa using h)⟩
  · exact .inl (q1 (by simpa using h))
end
section
variable {P : Program} {w : World} {K : PySem.W.Frag} {mg : Str → Option Value} {base : Heap} {tb : cG} {cj cL : Addr}
theorem ie : aQ ["net", "places", "met", "word"] ["net", "places"] (ai gr) := ⟨rfl, rfl, rfl, by decide +kernel, rfl, by decide +kernel, by decide +kernel⟩
noncomputable def rO : Option Str → Dv | some w => .str w | none => .aq
noncomputable def eU : List (List Int) → List Str → Option Str
  | k :: ks, w :: ws => if k.length = 1 then some w else eU ks ws
  | _, _ => none
noncomputable def o7 (af : List (List Int)) (n : Nat) (ps : List Int) : Option Str := eU (gO af n ps).1 (gO af n ps).2
theorem vE {af : List (List Int)} {n : Nat} (O : eu af n) {s : List Int} (hs : dy af.length s) : eA (dz af.length) (gO af n s) := zM (fun k hk a ha => eT (o6 O (jG hk) ha)) _ _ _ (lK (eT hs))
theorem Mf (k : List Int) : (kT k).map jJ = k.map Dv.int := by rw [kT, List.map_map]; rfl
theorem drop_cons {α : Type} {l : List α} {i : Nat} {x : α} (h : l[i]? = some x) : l.drop i = x :: l.drop (i + 1) := ku h
noncomputable def j5 : cJ := fun ds M Q _ => ∃ af n s, ds = [eN af, eI s] ∧ eu af n ∧ dy af.length s ∧ Q (rO (o7 af n s)) M
theorem pairs_at {ks : List (List Int)} {ws : List Str} {i : Nat} {d : Dv} (h : (cU ((ks.map kT).map fun k => Dv.tup (k.map jJ)) (ws.map Dv.str))[i]? = some d) : ∃ k w, d = .tup [eI k, .str w] ∧ ks[i]? = some k ∧ ws[i]? = some w := by
  obtain ⟨x, y, rfl, h1, h2⟩ := qP h
  rw [List.map_map] at h1
  obtain ⟨k, hk, rfl⟩ := lD h1
  obtain ⟨w, hw, rfl⟩ := lD h2
  exact ⟨k, w, by show Dv.tup [Dv.tup ((kT k).map jJ), _] = _; rw [Mf], hk, hw⟩
theorem rC {f f1 : Addr} {fd bI : FuncData} (D : Df K mg "first_call" gr ["net", "places"] f fd)
    (cV : Df K mg "images_met" aC ["net", "places"] f1 bI) (jn : FnOk P w K mg base bf 8 f1 bI ["net", "places"] (bj P w K tb CY)) (bl : Bl mg) : FnOk P w K mg base bf 9 f fd ["net", "places"] (bj P w K tb j5) := by
  refine eh D ie (fun ds M Q E hS => by obtain ⟨af, n, s, e, _⟩ := hS; rw [e]; rfl) fun A outer s0 E Γ ds Q' E' hP hw hK ht hr hS => ?_
  obtain ⟨af, n, s, e, O, hs, q⟩ := hS
  refine ⟨_, (ao (fu PassesOwn.never rfl (BI (aI jn (hr.mono (by decide)) rfl cV.mg cV.fn.kp cV.bd bb hP hw hK ht XR.none (aa (qv 0) (aa (qv 1) ah)))) (fun oV eP ew eK et => by have hP := hP.trans eP.symm; have hw := hw.trans ew.symm; have hK := hK.trans eK.symm; have ht := ht.trans et.symm; exact ⟨(oH (n := 2) rfl (eO (aM (i := 2) ie.nd rfl (Or.inl rfl)) (eO (aM (i := 3) ie.nd rfl (Or.inl rfl)) mq))), (aw (cw (aW ia (aG (de (K := K) rfl hK) rfl bl.len_ PySem.boot_len (aa (qv 2) ah)) av (bw _))
      (aw (aX (qv 3)))
      qss_nil))⟩))
    (aw (aX lx))), ?_⟩
  subst e
  simp! only []
  refine ⟨af, n, s, rfl, O, hs, ?_⟩
  have ok := vE O hs
  have hlen := ok.len
  simp only [xj]
  refine da (fun i ρ M => (∃ x2 x3, ρ = [some (eN af), some (eI s), x2, x3]) ∧ M = Γ.M0 ∧ eU ((gO af n s).1.drop i) ((gO af n s).2.drop i) = o7 af n s) ⟨⟨_, _, rfl⟩, rfl, rfl⟩ (fun i d ρ M N hd ⟨⟨x2, x3, e1⟩, e2, h⟩ hN => ?_) (fun ρ M ⟨⟨x2, x3, e1⟩, e2, h⟩ => ?_)
  · subst e1 e2
    obtain ⟨k, wd, rfl, hk, hV⟩ := pairs_at hd
    rw [drop_cons hk, drop_cons hV, eU] at h
    simp! only []
    refine c4 (fun h1 => ?_) (fun h1 => ?_)
    · rw [if_pos (by have := of_decide_eq_true h1; omega)] at h
      rw [← h] at q
      exact .inl q
    · rw [if_neg (by have := of_decide_eq_false h1; omega)] at h
      exact hN _ _ ⟨⟨_, _, rfl⟩, rfl, h⟩
  · subst e1 e2
    rw [pairsD_len, List.length_map, List.length_map, List.length_map, hlen, Nat.min_self] at h
    rw [List.drop_length, ← hlen, List.drop_length, eU] at h
    · rw [← h] at q
      exact .inl q
    · simp
end
section
variable {P : Program} {w : World} {K : PySem.W.Frag} {mg : Str → Option Value} {base : Heap} {tb : cG} {cj cL : Addr}
theorem uJ : aQ ["net", "places"] ["net", "places"] (ai iG) := ⟨rfl, rfl, rfl, by decide +kernel, rfl, by decide +kernel, by decide +kernel⟩
theorem uK {f f1 f2 f3 : Addr} {fd bI fd2 mZ : FuncData} (D : Df K mg "shortest" iG ["net", "places"] f fd)
    (fc : Df K mg "need_net" iD ["thing"] f1 bI) (kD : FnOk P w K mg base (gE P w) 7 f1 bI ["thing"] (bj P w K tb (CW cj)))
    (fe : Df K mg "need_set" iF ["net", "thing"] f2 fd2) (kE : FnOk P w K mg base (gE P w) 6 f2 fd2 ["net", "thing"] (bj P w K tb (t6 cL)))
    (dJ : Df K mg "first_call" gr ["net", "places"] f3 mZ) (jo : FnOk P w K mg base bf 9 f3 mZ ["net", "places"] (bj P w K tb j5)) :
    FnOk P w K mg base (gE P w) 10 f fd ["net", "places"] (bj P w K tb j5) := by
  refine wH D uJ (fun ds M Q E hS => by obtain ⟨af, n, s, e, _⟩ := hS; rw [e]; rfl) fun A outer s0 E Γ ds Q' E' hP hw hK ht hE hr hS => ?_
  obtain ⟨af, n, s, e, O, hs, q⟩ := hS
  refine ⟨_, (ao (mn (aI kD (hr.mono (by decide)) rfl fc.mg fc.fn.kp fc.bd Cm hP hw hK ht hE (aa (qv 0) ah)))
    (ao (mn (aI kE (hr.mono (by decide)) rfl fe.mg fe.fn.kp fe.bd Cm hP hw hK ht hE (aa (qv 0) (aa (qv 1) ah))))
    (aw (aX (aI jo (hr.mono (by decide)) rfl dJ.mg dJ.fn.kp dJ.bd bb hP hw hK ht XR.none (aa (qv 0) (aa (qv 1) ah))))))), ?_⟩
  subst e
  refine ⟨_, rfl, Ea af, fun _ => ?_, fun h => by rw [D9 O] at h; cases h⟩
  simp! only []
  refine ⟨af, n, _, rfl, O, Ec O.nine hs, fun _ => ?_, fun h => by rw [Eb hs] at h; cases h⟩
  exact ⟨af, n, s, rfl, O, hs, .inl q⟩
theorem o8 : aQ ["_law_net_here", "_law_places", "_law_k"] ["_law_net_here", "_law_places", "_law_k"] (ai dF) := ⟨rfl, rfl, rfl, by decide +kernel, rfl, by decide +kernel, by decide +kernel⟩
theorem cy : aQ ["_law_net_here", "_law_places", "_law_found", "_law_seen", "_law_at", "_law_here", "_law_word", "_law_k", "_law_there"] ["_law_net_here", "_law_places"] (ai iI) := ⟨rfl, rfl, rfl, by decide +kernel, rfl, by decide +kernel, by decide +kernel⟩
theorem jL : aQ ["_law_net_here", "_law_places", "_law_here", "_law_word"] ["_law_net_here", "_law_places"] (ai iJ) := ⟨rfl, rfl, rfl, by decide +kernel, rfl, by decide +kernel, by decide +kernel⟩
theorem fB : aQ ["_law_net_here", "_law_places", "_law_due_here", "_law_turn", "_law_found"] ["_law_net_here", "_law_places"] (ai gu) := ⟨rfl, rfl, rfl, by decide +kernel, rfl, by decide +kernel, by decide +kernel⟩
theorem pX {f : Addr} {fd : FuncData} (D : Df K mg "_law_set_led" dF ["_law_net_here", "_law_places", "_law_k"] f fd) (bl : Bl mg) : FnOk P w K mg base bf 1 f fd ["_law_net_here", "_law_places", "_law_k"] (bj P w K tb xm) := by
  refine eh D o8 (fun ds M Q E hS => by obtain ⟨af, n, ps, a, e, _⟩ := hS; rw [e]; rfl) fun A outer s0 E Γ ds Q' E' hP hw hK ht hr hS => ?_
  obtain ⟨af, n, ps, a, e, O, hS, ha, q⟩ := hS
  refine ⟨_, (aw (aX (dO (j1 (K := K) rfl) rfl bl.tuple_ eF (aa (aG (nB hP hw (K := K) rfl rfl) rfl bl.sorted_ lg (aa (dO (Cz hP hw (K := K) rfl rfl) rfl bl.set_ yM (aa (dj (N' := ["_law_place", "_law_k", "_law_net_here"]) (tn := 1) (idx := [2, 0]) rfl (show aE ["_law_net_here", "_law_places", "_law_k"] (ai dF) _ ["_law_place", "_law_k", "_law_net_here"] 1 [2, 0] from by decide +kernel) (jW (K := K) rfl (qv 1)) (fun _ _ _ _ _ => (aM (i := 0) (show List.Nodup [("_law_place" : Str), ("_law_k" : Str), ("_law_net_here" : Str)] from by decide +kernel) rfl (Or.inl rfl))) (fun _ _ _ _ _ => cI) (fun _ _ _ _ _ => (bN (c6 (K := K) rfl) (bN (c6 (K := K) rfl) (qv 2) (qv 0) (fun _ _ => rfl)) (qv 1) (fun _ _ => rfl)))) ah)) ah)) ah)))), ?_⟩
  subst e
  have h9 := O.nine
  have hl := hS.len
  simp! only []
  refine ⟨Nat.lt_of_le_of_lt (show ps.length ≤ 9 by omega) (by decide), vg (fun d => .int (rN af a d)) (fun τ M => (∃ x, τ = [x, some (.int (a : Nat)), some (eN af)]) ∧ M = Γ.M0) ⟨⟨_, rfl⟩, rfl⟩ (fun d hd τ M ⟨⟨x, e⟩, eM⟩ R hR => ?_) (fun τ M ⟨⟨x, e⟩, eM⟩ => ?_)⟩
  · subst e eM
    obtain ⟨p, hp, rfl⟩ := List.mem_map.mp hd
    have bQ := cx.mpr (hS.rng p hp)
    simp! only [o5 bQ, z8 O bQ ha]
    exact hR _ _ ⟨⟨_, rfl⟩, rfl⟩
  · subst e eM
    have e1 : (ps.map Dv.int).map (fun d => Dv.int (rN af a d)) = (ps.map fun p => fA af p a).map Dv.int := by rw [List.map_map, List.map_map]; rfl
    rw [e1]
    have := ka (ps.map fun p => fA af p a)
    rw [List.length_map] at this
    simp! only [eQ, Option.bind_some]
    exact ⟨Nat.lt_of_le_of_lt (show ps.length + 1 ≤ 10 by omega) (by decide), by omega, .inl q⟩
noncomputable def ig (r : List (List Int) × List Str) : List Dv := (r.1.zip r.2).map fun p => .tup [eI p.1, .str p.2]
theorem nM {r : List (List Int) × List Str} (h : r.1.length = r.2.length) : (ig r).length = r.1.length := by simp [ig, h]
theorem Ed {r : List (List Int) × List Str} {i : Nat} {k : List Int} {w : Str} (h1 : r.1[i]? = some k) (h2 : r.2[i]? = some w) : (ig r)[i]? = some (.tup [eI k, .str w]) := by
  rw [ig, List.getElem?_map, show (r.1.zip r.2)[i]? = some (k, w) from List.getElem?_zip_eq_some.mpr ⟨h1, h2⟩]; rfl
theorem BR {r : List (List Int) × List Str} (h : r.1.length = r.2.length) (k : List Int) (w : Str) : ig (r.1 ++ [k], r.2 ++ [w]) = ig r ++ [.tup [eI k, .str w]] := by
  rw [ig, ig, List.zip_append h, List.map_append]; rfl
theorem BU {M : Mh} {r : List (List Int) × List Str} : ∀ d ∈ ig r, Pin M d := fun d hd => by
  obtain ⟨p, _, rfl⟩ := List.mem_map.mp hd
  exact .tup fun x hx => by
    simp at hx
    rcases hx with rfl | rfl
    · exact zm _
    · exact .str _
noncomputable def CZ : cJ := fun ds M Q _ => ∃ af n s, ds = [eN af, eI s] ∧ eu af n ∧ dy af.length s ∧ Q (.lst (ig (gO af n s))) M
theorem xt {f f1 : Addr} {fd bI : FuncData} (D : Df K mg "_law_met" iI ["_law_net_here", "_law_places"] f fd)
    (cR : Df K mg "_law_set_led" dF ["_law_net_here", "_law_places", "_law_k"] f1 bI) (pY : FnOk P w K mg base bf 1 f1 bI ["_law_net_here", "_law_places", "_law_k"] (bj P w K tb xm)) (bl : Bl mg) : FnOk P w K mg base bf 2 f fd ["_law_net_here", "_law_places"] (bj P w K tb CZ) := by
  refine eh D cy (fun ds M Q E hS => by obtain ⟨af, n, s, e, _⟩ := hS; rw [e]; rfl) fun A outer s0 E Γ ds Q' E' hP hw hK ht hr hS => ?_
  obtain ⟨af, n, s, e, O, hs, q⟩ := hS
  refine ⟨_, (ao (aO (i := 2) cy.nd rfl (Or.inl rfl) (pF (aa (sU (aa (qv 1) (aa ly ah))) ah)))
    (ao (aO (i := 3) cy.nd rfl (Or.inl rfl) (qT hr.units (qv 1) gp))
    (ao (aO (i := 4) cy.nd rfl (Or.inl rfl) av)
    (ao (nu PassesOwn.never (aW nv (qv 4) (aG (de (K := K) rfl hK) rfl bl.len_ PySem.boot_len (aa (qv 2) ah)) (bw _))
      (ao (i9 (bN (c6 (K := K) rfl) (qv 2) (qv 4) (fun _ _ => rfl)) (oH (n := 2) rfl (eO (aM (i := 5) cy.nd rfl (Or.inl rfl)) (eO (aM (i := 6) cy.nd rfl (Or.inl rfl)) mq))))
    (ao (fu PassesOwn.never rfl (bH rfl bl.range_ (aa (aG (de (K := K) rfl hK) rfl bl.len_ PySem.boot_len (aa (bN (c6 (K := K) rfl) (qv 0) av (fun _ _ => rfl)) ah)) ah)) (fun oV eP ew eK et => by have hP := hP.trans eP.symm; have hw := hw.trans ew.symm; have hK := hK.trans eK.symm; have ht := ht.trans et.symm; exact ⟨(aM (i := 7) cy.nd rfl (Or.inl rfl)), (ao (aO (i := 8) cy.nd rfl (Or.inl rfl) (aI pY (hr.mono (by decide)) rfl cR.mg cR.fn.kp cR.bd bb hP hw hK ht XR.none (aa (qv 0) (aa (qv 5) (aa (qv 7) ah)))))
    (aw (cw (aW (tI hr.units) (qv 8) (qv 3) (by rfl))
      (ao (vk hr.units (qv 3) (qv 8) gp)
    (aw (mn (rJ (K := K) rfl PySem.F.plainAttrs_list PySem.F.slot_list_append PySem.F.type_list_append sX (qv 2) (aa (sU (aa (qv 8) (aa (aR qM (qv 6) (bN (c6 (K := K) rfl) ly (qv 7) (fun _ _ => rfl))) ah))) ah)))))
      qss_nil)))⟩))
    (aw (aO (i := 4) cy.nd rfl (Or.inl rfl) (aR fy (qv 4) av))))))
    (aw (aX (qv 2))))))), ?_⟩
  subst e
  simp! only [kB]
  refine ⟨by decide, by decide, fun a ha c hc => ?_⟩
  have C1 : c ≠ a := fun z => by rw [z, updM_same] at hc; cases hc
  have tK : Γ.M0 c = none := by rw [ak C1] at hc; exact hc
  have big : (10000 : Nat) + 10 < sizeLine := by decide
  have hU := ra O.nine
  have h1 := O.one
  have h0 : (0 : Int) ∈ fX af := cx.mpr ⟨by omega, by omega⟩
  have zR : (af.getD 0 []).length = n := by
    rw [getD_at (by omega)]
    exact (O.row _ (List.getElem_mem _)).1
  have Ox := O.wid
  refine ⟨fun m ρ M => ∃ i st, m = (dz af.length).length + 1 - i ∧ (∃ x5 x6 x7 x8, ρ = [some (eN af), some (eI s), some (.ptr a), some (.ptr c), some (.int (i : Nat)), x5, x6, x7, x8]) ∧ M a = some (.lst (ig st)) ∧ M c = some (.dt (st.1.map kT) (st.1.map fun _ => .bl true)) ∧ (∀ b, b ≠ a → b ≠ c → M b = Γ.M0 b) ∧ eA (dz af.length) st ∧ i ≤ st.1.length ∧ kM (bG af) n 511 ((dz af.length).length + 1 - i) i st = gO af n s,
    ⟨_, 0, ([s], [""]), rfl, ⟨_, _, _, _, rfl⟩, by rw [ak (Ne.symm C1), updM_same]; rfl, updM_same, fun b h1 h2 => by rw [ak h2, ak h1], lK (eT hs), Nat.zero_le _, rfl⟩, ?_⟩
  rintro m ρ M ⟨i, st, rfl, ⟨x5, x6, x7, x8, rfl⟩, qY, Oz, oN, ok, hi, hb⟩
  have hle := ok.le
  have KI := ok.len
  have vD : (dz af.length).length + 1 - i = ((dz af.length).length - i) + 1 := by omega
  simp! only [qY, nM KI]
  refine c4 (fun h1 => ?_) (fun h1 => ?_)
  · have aT : i < st.1.length := by have := of_decide_eq_true h1; omega
    obtain ⟨k, hk⟩ : ∃ k, st.1[i]? = some k := ⟨_, List.getElem?_eq_getElem aT⟩
    obtain ⟨wd, hV⟩ : ∃ wd, st.2[i]? = some wd := ⟨_, List.getElem?_eq_getElem (by omega)⟩
    have tV : dy af.length k := jG (ok.sub k (List.mem_of_getElem? hk))
    simp! only [dB (Ed hk hV), o5 h0, Int.toNat_zero, zR]
    refine ⟨by omega, by omega, ?_⟩
    refine da (fun j ρ M => (∃ x7 x8, ρ = [some (eN af), some (eI s), some (.ptr a), some (.ptr c), some (.int (i : Nat)), some (eI k), some (.str wd), x7, x8]) ∧ M a = some (.lst (ig (visit (bG af) k wd j st))) ∧ M c = some (.dt ((visit (bG af) k wd j st).1.map kT) ((visit (bG af) k wd j st).1.map fun _ => .bl true)) ∧ (∀ b, b ≠ a → b ≠ c → M b = Γ.M0 b) ∧ j ≤ n)
      ⟨⟨_, _, rfl⟩, qY, Oz, oN, Nat.zero_le _⟩ (fun j d ρ M N hd ⟨⟨x7, x8, e1⟩, lU, Ae, o4, gj⟩ hN => ?_) (fun ρ M ⟨⟨x7, x8, e1⟩, lU, Ae, o4, gj⟩ => ?_)
    · subst e1
      obtain ⟨rfl, hj⟩ := eR hd
      obtain ⟨gk, gw, g1, g2⟩ := gq (bG af) k wd j st
      have qZ := ok.visit (n := j) (step := bG af) (met := k) hV fun b hb => eT (o6 O tV (by omega))
      have Ow := qZ.le
      have xl := qZ.len
      have z7 : (visit (bG af) k wd j st).2[i]? = some wd := by rw [g2]; exact mD hV
      have yh := qZ.wl i wd z7
      have Md : i < (visit (bG af) k wd j st).2.length := (List.getElem?_eq_some_iff.mp z7).1
      simp! only []
      refine ⟨af, n, k, j, rfl, O, tV, hj, ?_⟩
      simp! only [Ae, kB, w6 (show ((visit (bG af) k wd j st).1.map kT).length = ((visit (bG af) k wd j st).1.map fun _ => Dv.bl true).length by rw [List.length_map, List.length_map]), jK o3]
      have vs := iC (bG af) k wd j st
      refine c4 (fun hm => ?_) (fun hm => ?_)
      · have hm : bG af k j ∉ (visit (bG af) k wd j st).1 := by simpa using hm
        have hv : visit (bG af) k wd (j + 1) st = ((visit (bG af) k wd j st).1 ++ [bG af k j], (visit (bG af) k wd j st).2 ++ [wd ++ qV j]) := by rw [vs]; unfold gK; rw [if_neg hm]
        obtain ⟨p1, p2⟩ := vz (κ := List Key) (k := kT (bG af k j)) (d := Dv.bl true) (ks := (visit (bG af) k wd j st).1.map kT) (ds := (visit (bG af) k wd j st).1.map fun _ => Dv.bl true) (fun z => hm ((jK o3).mp z))
        rw [p1, p2]
        simp! only [ak (Ne.symm C1), lU, vA (show j < 3 by omega)]
        have e1 : (⟨#[97 + j]⟩ : Str) = qV j := rfl
        rw [e1, pP]
        refine ⟨by omega, by decide, by omega, by decide, by rw [nM xl]; omega, hN _ _ ⟨⟨_, _, rfl⟩, ?_, ?_, fun b h1 h2 => by rw [ak h1, ak h2]; exact o4 b h1 h2, hj⟩⟩
        · rw [updM_same, hv, BR xl]
        · rw [ak C1, updM_same, hv, List.map_append, List.map_append]; rfl
      · have hm : bG af k j ∈ (visit (bG af) k wd j st).1 := by simpa using hm
        have hv : visit (bG af) k wd (j + 1) st = visit (bG af) k wd j st := by rw [vs]; unfold gK; rw [if_pos hm]
        exact hN _ _ ⟨⟨_, _, rfl⟩, by rw [hv]; exact lU, by rw [hv]; exact Ae, o4, hj⟩
    · subst e1
      have HG : (cf 0 n).length = n := rangeD_len 0 n
      rw [HG] at lU Ae gj
      have HH := ok.visit (n := n) (step := bG af) (met := k) hV fun b hb => eT (o6 O tV hb)
      obtain ⟨gk, gw, g1, g2⟩ := gq (bG af) k wd n st
      simp! only []
      refine ⟨_, ?_, i + 1, visit (bG af) k wd n st, rfl, ⟨_, _, _, _, by simp only [Int.natCast_add, Int.cast_ofNat_Int]; rfl⟩, lU, Ae, o4, HH, by rw [g1, List.length_append]; omega, ?_⟩
      · omega
      · rw [← hb, vD, zN hk hV (by omega)]
        rw [show (dz af.length).length + 1 - (i + 1) = (dz af.length).length - i by omega]
  · have oP : st.1.length ≤ i := by have := of_decide_eq_false h1; omega
    have e : st = gO af n s := by
      rw [← hb, vD]
      unfold kM
      simp only [show st.1[i]? = none from List.getElem?_eq_none oP]
    refine zp (fun b o e => by rw [oN b (fun z => by rw [z, ha] at e; cases e) (fun z => by rw [z, tK] at e; cases e)]; exact e) ha qY BU ?_
    rw [e]
    exact q
theorem xu {f f1 : Addr} {fd bI : FuncData} (D : Df K mg "_law_due" iJ ["_law_net_here", "_law_places"] f fd)
    (fg : Df K mg "_law_met" iI ["_law_net_here", "_law_places"] f1 bI) (xx : FnOk P w K mg base bf 2 f1 bI ["_law_net_here", "_law_places"] (bj P w K tb CZ)) (bl : Bl mg) : FnOk P w K mg base bf 3 f fd ["_law_net_here", "_law_places"] (bj P w K tb j5) := by
  refine eh D jL (fun ds M Q E hS => by obtain ⟨af, n, s, e, _⟩ := hS; rw [e]; rfl) fun A outer s0 E Γ ds Q' E' hP hw hK ht hr hS => ?_
  obtain ⟨af, n, s, e, O, hs, q⟩ := hS
  refine ⟨_, (ao (fu PassesOwn.never rfl (pG (K := K) rfl (aI xx (hr.mono (by decide)) rfl fg.mg fg.fn.kp fg.bd bb hP hw hK ht XR.none (aa (qv 0) (aa (qv 1) ah)))) (fun oV eP ew eK et => by have hP := hP.trans eP.symm; have hw := hw.trans ew.symm; have hK := hK.trans eK.symm; have ht := ht.trans et.symm; exact ⟨(oH (n := 2) rfl (eO (aM (i := 2) jL.nd rfl (Or.inl rfl)) (eO (aM (i := 3) jL.nd rfl (Or.inl rfl)) mq))), (aw (cw (aW ia (aG (de (K := K) rfl hK) rfl bl.len_ PySem.boot_len (aa (qv 2) ah)) av (bw _))
      (aw (aX (qv 3)))
      qss_nil))⟩))
    (aw (aX lx))), ?_⟩
  subst e
  simp! only []
  refine ⟨af, n, s, rfl, O, hs, ?_⟩
  have hlen := (vE O hs).len
  simp! only []
  refine da (fun i ρ M => (∃ x2 x3, ρ = [some (eN af), some (eI s), x2, x3]) ∧ M = Γ.M0 ∧ eU ((gO af n s).1.drop i) ((gO af n s).2.drop i) = o7 af n s) ⟨⟨_, _, rfl⟩, rfl, rfl⟩ (fun i d ρ M N hd ⟨⟨x2, x3, e1⟩, e2, h⟩ hN => ?_) (fun ρ M ⟨⟨x2, x3, e1⟩, e2, h⟩ => ?_)
  · subst e1 e2
    obtain ⟨⟨k, wd⟩, hz, rfl⟩ := lD hd
    obtain ⟨hk, hV⟩ := List.getElem?_zip_eq_some.mp hz
    have hk : (gO af n s).1[i]? = some k := hk
    have hV : (gO af n s).2[i]? = some wd := hV
    rw [drop_cons hk, drop_cons hV, eU] at h
    simp! only []
    refine c4 (fun h1 => ?_) (fun h1 => ?_)
    · rw [if_pos (by have : (k.length : Int) = 1 := of_decide_eq_true h1; omega)] at h
      rw [← h] at q
      exact .inl q
    · rw [if_neg (by have : ¬ (k.length : Int) = 1 := of_decide_eq_false h1; omega)] at h
      exact hN _ _ ⟨⟨_, _, rfl⟩, rfl, h⟩
  · subst e1 e2
    rw [nM hlen] at h
    rw [List.drop_length, hlen, List.drop_length, eU] at h
    · rw [← h] at q
      exact .inl q
    · simp
theorem t7 {d : Dv} {t : Dt} {M : Mh} {Q : ZK} (h : bU (now M d) = some t) (hp : iq t ≤ 60) (q : Q (.bl false) M) : ny true d d M Q := by
  unfold ny
  rw [h]
  refine ⟨hp, ?_⟩
  rw [kb]
  exact q
noncomputable def Af : cJ := fun ds M Q _ => ∃ af n s, ds = [eN af, eI s] ∧ eu af n ∧ dy af.length s ∧ Q (.bl true) M
theorem t8 {f f1 f2 : Addr} {fd bI fd2 : FuncData} (D : Df K mg "_law_right" gu ["_law_net_here", "_law_places"] f fd)
    (fh : Df K mg "_law_due" iJ ["_law_net_here", "_law_places"] f1 bI) (xA : FnOk P w K mg base bf 3 f1 bI ["_law_net_here", "_law_places"] (bj P w K tb j5))
    (fi : Df K mg "shortest" iG ["net", "places"] f2 fd2) (kF : FnOk P w K mg base (gE P w) 10 f2 fd2 ["net", "places"] (bj P w K tb j5)) (bl : Bl mg) : FnOk P w K mg base bf 11 f fd ["_law_net_here", "_law_places"] (bj P w K tb Af) := by
  refine eh D fB (fun ds M Q E hS => by obtain ⟨af, n, s, e, _⟩ := hS; rw [e]; rfl) fun A outer s0 E Γ ds Q' E' hP hw hK ht hr hS => ?_
  obtain ⟨af, n, s, e, O, hs, q⟩ := hS
  refine ⟨_, (ao (aO (i := 2) fB.nd rfl (Or.inl rfl) (aI xA (hr.mono (by decide)) rfl fh.mg fh.fn.kp fh.bd bb hP hw hK ht XR.none (aa (qv 0) (aa (qv 1) ah))))
    (ao (fu PassesOwn.never rfl (bH rfl bl.range_ (aa av ah)) (fun oV eP ew eK et => by have hP := hP.trans eP.symm; have hw := hw.trans ew.symm; have hK := hK.trans eK.symm; have ht := ht.trans et.symm; exact ⟨(aM (i := 3) fB.nd rfl (Or.inl rfl)), (ao (aO (i := 4) fB.nd rfl (Or.inl rfl) (aI kF (hr.mono (by decide)) rfl fi.mg fi.fn.kp fi.bd IW hP hw hK ht XR.none (aa (qv 0) (aa (qv 1) ah))))
    (aw (cw (QW.pt (mj (QW.pt (oG (aW Jg (qv 2) lx (bw _)) (mi (aW zh (qv 4) lx (bw _))))) (mj (QW.pt (oG (aW zh (qv 2) lx (bw _)) (mi (g8 (g7 (aG (gH (K := K) rfl) rfl bl.isinstance_ c7 (aa (qv 4) (aa (iM (v := .ty "str") rfl bl.str_ FW rfl) ah)))))))) (lz (aW (Ji hr.units) (qv 4) (qv 2) (bw _))))))
      (aw (aX gp))
      qss_nil)))⟩))
    (aw (aX gp)))), ?_⟩
  subst e
  simp! only []
  refine ⟨af, n, s, rfl, O, hs, by decide, by decide, ?_⟩
  refine da (fun i ρ M => (∃ x3 x4, ρ = [some (eN af), some (eI s), some (rO (o7 af n s)), x3, x4]) ∧ M = Γ.M0) ⟨⟨_, _, rfl⟩, rfl⟩ (fun i d ρ M N hd ⟨⟨x3, x4, e1⟩, e2⟩ hN => ?_) (fun ρ M ⟨⟨x3, x4, e1⟩, e2⟩ => ?_)
  · subst e1 e2
    simp! only []
    refine ⟨af, n, s, rfl, O, hs, ?_⟩
    cases ec : o7 af n s with
    | none =>
      rw [ec] at hN
      simp! only [rO]
      exact t7 rfl (by decide) (hN _ _ ⟨⟨_, _, rfl⟩, rfl⟩)
    | some wd =>
      rw [ec] at hN
      simp! only [rO]
      exact ⟨by decide, t7 rfl (Nat.le_of_ble_eq_true rfl) (hN _ _ ⟨⟨_, _, rfl⟩, rfl⟩)⟩
  · subst e1 e2
    exact .inl q
end
noncomputable def t9 (bits : Int) (p : Int) : Bool := decide (Builtin.bitAnd (bits / 2 ^ p.toNat) 1 = 1)
theorem nN {bits : Int} {p : Nat} (h : 0 ≤ bits) : t9 bits (p : Nat) = true ↔ (bits / 2 ^ p) % 2 = 1 := by
  unfold t9
  have h0 : 0 ≤ bits / 2 ^ p := Int.ediv_nonneg h (Int.le_of_lt (Int.pow_pos (by decide)))
  rw [Int.toNat_natCast, bitAnd_pp h0 (by decide), decide_eq_true_iff]
  have e : ((bits / 2 ^ p).toNat &&& (1 : Int).toNat : Nat) = (bits / 2 ^ p).toNat % 2 := Nat.and_one_is_mod _
  rw [e]
  constructor <;> intro z <;> omega
theorem ua : ∀ (m : Nat) {bits : Int}, 1 ≤ bits → bits < 2 ^ m → ∃ p : Nat, p < m ∧ t9 bits (p : Nat) = true
  | 0, bits, h1, h2 => by
    rw [Int.pow_zero] at h2
    omega
  | m + 1, bits, h1, h2 => by
    by_cases hb : bits % 2 = 1
    · refine ⟨0, Nat.succ_pos _, (nN (by omega)).mpr ?_⟩
      rw [Int.pow_zero, Int.ediv_one]
      exact hb
    · have e : (2 : Int) ^ (m + 1) = 2 ^ m * 2 := Int.pow_succ _ _
      obtain ⟨p, hp, hq⟩ := ua m (bits := bits / 2) (by omega) (by omega)
      refine ⟨p + 1, by omega, (nN (by omega)).mpr ?_⟩
      have := (nN (by omega)).mp hq
      rw [Int.ediv_ediv_of_nonneg (by decide)] at this
      rw [Int.pow_succ, Int.mul_comm]
      exact this
noncomputable def xB (m : Nat) (bits : Int) : List Int := (dD m).filter (t9 bits)
theorem Ee {m : Nat} {bits : Int} (h1 : 1 ≤ bits) (h2 : bits < 2 ^ m) : dy m (xB m bits) := by
  refine ⟨List.Pairwise.filter _ (ib m), fun p hp => iL.mp (List.mem_filter.mp hp).1, fun e => ?_⟩
  obtain ⟨p, hp, hb⟩ := ua m h1 h2
  have : ((p : Nat) : Int) ∈ xB m bits := List.mem_filter.mpr ⟨iL.mpr ⟨by omega, by omega⟩, hb⟩
  rw [e] at this
  cases this
noncomputable def HJ (bits : Int) : Dv → Bool | .int p => t9 bits p | _ => false
theorem BV (m : Nat) (bits : Int) : (cf 0 m).filter (HJ bits) = (xB m bits).map Dv.int := by
  have e : cf 0 m = (dD m).map Dv.int := by
    unfold cf dD
    rw [List.map_map]
    exact List.map_congr_left fun i _ => by show Dv.int _ = Dv.int _; rw [Int.zero_add]
  rw [e, List.filter_map]
  rfl
theorem BW {m : Nat} (h1 : 1 ≤ m) (h9 : m ≤ 9) : (2 : Int) ≤ 2 ^ m ∧ (2 : Int) ^ m ≤ 512 := by
  have : m = 1 ∨ m = 2 ∨ m = 3 ∨ m = 4 ∨ m = 5 ∨ m = 6 ∨ m = 7 ∨ m = 8 ∨ m = 9 := by omega
  rcases this with rfl | rfl | rfl | rfl | rfl | rfl | rfl | rfl | rfl <;> decide
section
variable {P : Program} {w : World} {K : PySem.W.Frag} {mg : Str → Option Value} {base : Heap} {tb : cG}
theorem jq : aQ ["_law_script", "_law_k", "_law_bag_here", "_law_net_here", "_law_turn", "_law_bits"] ["_law_script"] (ai rL) := ⟨rfl, rfl, rfl, by decide +kernel, rfl, by decide +kernel, by decide +kernel⟩
theorem HK {f f1 f2 f3 f4 : Addr} {fd bI fd2 mZ KL : FuncData} (D : Df K mg "law" rL ["_law_script"] f fd)
    (fj : Df K mg "_law_bag" iH ["_law_script", "_law_at"] f1 bI) (xC : FnOk P w K mg base bf 1 f1 bI ["_law_script", "_law_at"] (bj P w K tb Hv))
    (fk : Df K mg "_law_net" bV ["_law_bag_here", "_law_most"] f2 fd2) (xD : FnOk P w K mg base bf 3 f2 fd2 ["_law_bag_here", "_law_most"] (bj P w K tb CO))
    (aj : Df K mg "_law_take" d7 ["_law_bag_here", "_law_many"] f3 mZ) (a9 : FnOk P w K mg base bf 1 f3 mZ ["_law_bag_here", "_law_many"] (bj P w K tb mE))
    (dM : Df K mg "_law_right" gu ["_law_net_here", "_law_places"] f4 KL) (ub : FnOk P w K mg base bf 11 f4 KL ["_law_net_here", "_law_places"] (bj P w K tb Af)) (bl : Bl mg) :
    FnOk P w K mg base bf 12 f fd ["_law_script"] (bj P w K tb G1) := by
  refine eh D jq (fun ds M Q E hS => by obtain ⟨ns, e, _⟩ := hS; rw [e]; rfl) fun A outer s E Γ ds Q' E' hP hw hK ht hr hS => ?_
  obtain ⟨ns, e, hl, hM, q⟩ := hS
  refine ⟨_, (ao (fu PassesOwn.never rfl (bH rfl bl.range_ (aa (aG (GQ rfl) rfl bl.max_ FX (aa av (aa (aG (zk rfl) rfl bl.min_ yw (aa (aG (de (K := K) rfl hK) rfl bl.len_ PySem.boot_len (aa (qv 0) ah)) (aa av ah))) ah))) ah)) (fun oV eP ew eK et => by have hP := hP.trans eP.symm; have hw := hw.trans ew.symm; have hK := hK.trans eK.symm; have ht := ht.trans et.symm; exact ⟨(aM (i := 1) jq.nd rfl (Or.inl rfl)), (ao (aO (i := 2) jq.nd rfl (Or.inl rfl) (aI xC (hr.mono (by decide)) rfl fj.mg fj.fn.kp fj.bd bb hP hw hK ht XR.none (aa (qv 0) (aa (qv 1) ah))))
    (ao (aO (i := 3) jq.nd rfl (Or.inl rfl) (aI xD (hr.mono (by decide)) rfl fk.mg fk.fn.kp fk.bd bb hP hw hK ht XR.none (aa (qv 2) (aa av ah))))
    (aw (fu PassesOwn.never rfl (bH rfl bl.range_ (aa av ah)) (fun oV eP ew eK et => by have hP := hP.trans eP.symm; have hw := hw.trans ew.symm; have hK := hK.trans eK.symm; have ht := ht.trans et.symm; exact ⟨(aM (i := 4) jq.nd rfl (Or.inl rfl)), (ao (aO (i := 5) jq.nd rfl (Or.inr rfl) (aR fy av (aI a9 (hr.mono (by decide)) rfl aj.mg aj.fn.kp aj.bd bb hP hw hK ht XR.none (aa (qv 2) (aa (aR wF (aR CK av (aG (de (K := K) rfl hK) rfl bl.len_ PySem.boot_len (aa (qv 3) ah))) av) ah)))))
    (ao (cw (aW ia (aI a9 (hr.mono (by decide)) rfl aj.mg aj.fn.kp aj.bd bb hP hw hK ht XR.none (aa (qv 2) (aa av ah))) av (bw _))
      (aw (aO (i := 5) jq.nd rfl (Or.inr rfl) (aR wF (aR CK av (aG (de (K := K) rfl hK) rfl bl.len_ PySem.boot_len (aa (qv 3) ah))) av)))
      qss_nil)
    (aw (cw (g8 (g7 (aI ub (hr.mono (by decide)) rfl dM.mg dM.fn.kp dM.bd bb hP hw hK ht XR.none (aa (qv 3) (aa (dO (j1 (K := K) rfl) rfl bl.tuple_ eF (aa (dj (N' := ["_law_place", "_law_bits"]) (tn := 1) (idx := [5]) rfl (show aE ["_law_script", "_law_k", "_law_bag_here", "_law_net_here", "_law_turn", "_law_bits"] (ai rL) _ ["_law_place", "_law_bits"] 1 [5] from by decide +kernel) (bH rfl bl.range_ (aa (aG (de (K := K) rfl hK) rfl bl.len_ PySem.boot_len (aa (qv 3) ah)) ah)) (fun _ _ _ _ _ => (aM (i := 0) (show List.Nodup [("_law_place" : Str), ("_law_bits" : Str)] from by decide +kernel) rfl (Or.inl rfl))) (fun _ _ _ _ _ => (vb (aW ia (aR Js (aR Jr (qv 1) (qv 0)) av) av (bw _)))) (fun _ _ _ _ _ => (qv 0))) ah)) ah)))))
      (aw (aX gp))
      qss_nil))))⟩)))))⟩))
    (aw (aX gp))), ?_⟩
  subst e
  simp! only []
  refine ⟨by split <;> split <;> omega, by split <;> split <;> omega, ?_⟩
  refine da (fun k ρ M => (∃ x1 x2 x3 x4 x5, ρ = [some (.bh ns), x1, x2, x3, x4, x5])) ⟨_, _, _, _, _, rfl⟩ (fun k d ρ M N hd ⟨x1, x2, x3, x4, x5, e1⟩ hN => ?_) (fun ρ M _ => .inl (q _))
  subst e1
  obtain ⟨rfl, hk⟩ := eR hd
  have hk : k ≤ 8 := by split at hk <;> split at hk <;> omega
  simp! only []
  refine ⟨ns, _, rfl, hl, by omega, by omega, fun b hb => ?_⟩
  refine ⟨b, 9, rfl, updM_same, by omega, by omega, fun af n O _ => ?_⟩
  have h9 := O.nine
  have h1 := O.one
  obtain ⟨p2, OT⟩ := BW h1 h9
  have big : (100 : Nat) < sizeLine := by decide
  simp! only []
  refine ⟨by decide, by decide, ?_⟩
  refine da (fun j ρ M' => (∃ x4 x5, ρ = [some (.bh ns), some (.int (k : Nat)), some (.ptr b), some (eN af), x4, x5]) ∧ M' = ax M b .cF) ⟨⟨_, _, rfl⟩, rfl⟩ (fun j d ρ M' N' hd ⟨⟨x4, x5, e1⟩, e2⟩ OA => ?_) (fun ρ M' ⟨⟨x4, x5, e1⟩, e2⟩ => ?_)
  · subst e1 e2
    simp only [zgName, List.set_cons_zero, List.set_cons_succ]
    refine kr (fun ρ M' => (∃ bits : Int, 1 ≤ bits ∧ bits < 2 ^ af.length ∧ ρ = [some (.bh ns), some (.int (k : Nat)), some (.ptr b), some (eN af), some d, some (.int bits)]) ∧ M' = ax M b .cF) (fun N2 oW => ?_) ?_
    · simp! only [Int.one_mul]
      refine ⟨⟨by omega, by omega, by decide⟩, b, _, rfl, updM_same, by omega, by omega, fun v hv => ?_⟩
      exact oW _ _ ⟨⟨_, by omega, by omega, rfl⟩, rfl⟩
    rintro ρ M' ⟨⟨bits, b1, b2, rfl⟩, rfl⟩
    refine kr (fun ρ M' => (∃ bits : Int, 1 ≤ bits ∧ bits < 2 ^ af.length ∧ ρ = [some (.bh ns), some (.int (k : Nat)), some (.ptr b), some (eN af), some d, some (.int bits)]) ∧ M' = ax M b .cF) (fun N2 oW => ?_) ?_
    · simp! only [Int.one_mul]
      refine ⟨b, _, rfl, updM_same, by omega, by omega, fun v hv => ?_⟩
      simp! only []
      refine c4 (fun _ => ⟨⟨by omega, by omega, by decide⟩, oW _ _ ⟨⟨_, by omega, by omega, rfl⟩, rfl⟩⟩) (fun _ => oW _ _ ⟨⟨_, b1, b2, rfl⟩, rfl⟩)
    rintro ρ M' ⟨⟨bits, b1, b2, rfl⟩, rfl⟩
    simp! only []
    refine ⟨by omega, by omega, by omega, nE (HJ bits) (fun d hd R hR => ?_) ?_⟩
    · obtain ⟨p, hp, rfl⟩ := kj hd
      rw [Int.zero_add] at hR ⊢
      simp! only []
      exact ⟨by omega, hR⟩
    · rw [BV]
      exact ⟨af, n, _, rfl, O, Ee b1 b2, OA _ _ ⟨⟨_, _, rfl⟩, rfl⟩⟩
  · subst e1 e2
    exact hN _ _ ⟨_, _, _, _, _, rfl⟩
end
theorem all_mk {l : PySem.W.OpenLaw} {w : World} {K : PySem.W.Frag} {h : Heap} {mg : Str → Option Value} {fa : Addr} {tabs lts : List Addr} {m5 cj cL : Addr} (X : K.In h) (G : h.Ns mainGlobals mg) (OB : mg "law" = some (.ref fa))
    (T : Paired (TabOf mg h) ["is_row", "is_net", "is_set"] tabs) (U : Paired (TabOf mg h) ["images_met"] lts)
    (n_RoadError : PySem.W.nsIn K mainGlobals "RoadError" = some (some (.ref m5)))
    (n_NoNet : PySem.W.nsIn K mainGlobals "NoNet" = some (some (.ref cj)))
    (n_NoSet : PySem.W.nsIn K mainGlobals "NoSet" = some (some (.ref cL)))
    (eb : wx K m5 [cj, cL] = true) (ndc : [cj, cL].Nodup)
    (d_is_whole : bM K "is_whole" dg)
    (d_is_whole_below : bM K "is_whole_below" bL)
    (d_is_row : bM K "is_row" jh)
    (d_is_net : bM K "is_net" ji)
    (d_need_net : bM K "need_net" iD)
    (d_is_place : bM K "is_place" iE)
    (d_first_met : ∃ tk, lJ K "first_met" gT (.int 511 tk))
    (d_is_set : bM K "is_set" jj)
    (d_need_set : bM K "need_set" iF)
    (d_sign_image : bM K "sign_image" dE)
    (d_images_met : bM K "images_met" aC)
    (d_first_call : bM K "first_call" gr)
    (d_shortest : bM K "shortest" iG)
    (d__law_bag : bM K "_law_bag" iH)
    (d__law_take : bM K "_law_take" d7)
    (d__law_order : bM K "_law_order" eS)
    (d__law_net : bM K "_law_net" bV)
    (d__law_set_led : bM K "_law_set_led" dF)
    (d__law_met : bM K "_law_met" iI)
    (d__law_due : bM K "_law_due" iJ)
    (d__law_right : bM K "_law_right" gu)
    (d_law : bM K "law" rL)
    (z_len : PySem.W.nsIn K mainGlobals "len" = some none)
    (z_range : PySem.W.nsIn K mainGlobals "range" = some none)
    (z_min : PySem.W.nsIn K mainGlobals "min" = some none)
    (z_max : PySem.W.nsIn K mainGlobals "max" = some none)
    (z_abs : PySem.W.nsIn K mainGlobals "abs" = some none)
    (z_list : PySem.W.nsIn K mainGlobals "list" = some none)
    (z_tuple : PySem.W.nsIn K mainGlobals "tuple" = some none)
    (z_int : PySem.W.nsIn K mainGlobals "int" = some none)
    (z_str : PySem.W.nsIn K mainGlobals "str" = some none)
    (z_bool : PySem.W.nsIn K mainGlobals "bool" = some none)
    (z_isinstance : PySem.W.nsIn K mainGlobals "isinstance" = some none)
    (z_all : PySem.W.nsIn K mainGlobals "all" = some none)
    (z_set : PySem.W.nsIn K mainGlobals "set" = some none)
    (z_sorted : PySem.W.nsIn K mainGlobals "sorted" = some none)
    (z_zip : PySem.W.nsIn K mainGlobals "zip" = some none)
    (z_enumerate : PySem.W.nsIn K mainGlobals "enumerate" = some none)
    (z_sum : PySem.W.nsIn K mainGlobals "sum" = some none)
    (z_reversed : PySem.W.nsIn K mainGlobals "reversed" = some none)
    (z_divmod : PySem.W.nsIn K mainGlobals "divmod" = some none)
    (z_any : PySem.W.nsIn K mainGlobals "any" = some none)
    (z_ValueError : PySem.W.nsIn K mainGlobals "ValueError" = some none)
    (t_SIGNS : ∃ tk, PySem.W.nsIn K mainGlobals "SIGNS" = some (some (.str "abc" tk)))
    (t_MOST_PLACES : ∃ tk, PySem.W.nsIn K mainGlobals "MOST_PLACES" = some (some (.int 9 tk)))
    : ∃ fd : FuncData, (∀ (s : Shared) (v : Value), BindsTo s fd ⟨[v], []⟩ [("_law_script", v)]) ∧ ∀ base : Heap, K.In base → base.Ns mainGlobals mg → (∃ bm ob, BMod base mainGlobals mg bm ob) → (∀ c p, PySem.W.CodeHd h c p → PySem.W.CodeHd base c p) → FnOk l.prog w K mg base bf 12 fa fd ["_law_script"] (spLaw K ⟨tabs, lts.zip [qI]⟩) := by
  obtain ⟨Jv, HW, bp⟩ := d_is_whole.df X G ["thing"] fun _ _ _ _ _ _ us hl => match us, hl with | [_], _ => rfl
  obtain ⟨BX, Aj, aF⟩ := d_is_whole_below.df X G ["thing", "many"] fun _ _ _ _ _ _ us hl => match us, hl with | [_, _], _ => rfl
  obtain ⟨Mg, KN, fN⟩ := d_is_row.df X G ["thing", "many", "width"] fun _ _ _ _ _ _ us hl => match us, hl with | [_, _, _], _ => rfl
  obtain ⟨Mi, KO, fO⟩ := d_is_net.df X G ["thing"] fun _ _ _ _ _ _ us hl => match us, hl with | [_], _ => rfl
  obtain ⟨Jw, HX, fc⟩ := d_need_net.df X G ["thing"] fun _ _ _ _ _ _ us hl => match us, hl with | [_], _ => rfl
  obtain ⟨Jx, HY, fb⟩ := d_is_place.df X G ["net", "thing"] fun _ _ _ _ _ _ us hl => match us, hl with | [_, _], _ => rfl
  obtain ⟨HL, d_first_met⟩ := d_first_met
  obtain ⟨HZ, HM, d9⟩ := d_first_met.df X G ["start", "width", "step", "most"] (fun _ _ _ _ _ _ _ us hl => match us, hl with | [_, _, _], _ => ⟨_, rfl, rfl⟩) fun _ _ _ _ _ _ _ us hl => match us, hl with | [_, _, _, _], _ => ⟨_, rfl, rfl⟩
  obtain ⟨Mj, KP, fP⟩ := d_is_set.df X G ["net", "thing"] fun _ _ _ _ _ _ us hl => match us, hl with | [_, _], _ => rfl
  obtain ⟨Jy, Ia, fe⟩ := d_need_set.df X G ["net", "thing"] fun _ _ _ _ _ _ us hl => match us, hl with | [_, _], _ => rfl
  obtain ⟨HN, Ej, cD⟩ := d_sign_image.df X G ["net", "places", "at"] fun _ _ _ _ _ _ us hl => match us, hl with | [_, _, _], _ => rfl
  obtain ⟨HP, Ek, cV⟩ := d_images_met.df X G ["net", "places"] fun _ _ _ _ _ _ us hl => match us, hl with | [_, _], _ => rfl
  obtain ⟨HQ, El, dJ⟩ := d_first_call.df X G ["net", "places"] fun _ _ _ _ _ _ us hl => match us, hl with | [_, _], _ => rfl
  obtain ⟨Jz, Ib, fi⟩ := d_shortest.df X G ["net", "places"] fun _ _ _ _ _ _ us hl => match us, hl with | [_, _], _ => rfl
  obtain ⟨JA, Ic, fj⟩ := d__law_bag.df X G ["_law_script", "_law_at"] fun _ _ _ _ _ _ us hl => match us, hl with | [_, _], _ => rfl
  obtain ⟨Ie, HR, aj⟩ := d__law_take.df X G ["_law_bag_here", "_law_many"] fun _ _ _ _ _ _ us hl => match us, hl with | [_, _], _ => rfl
  obtain ⟨HS, Em, bW⟩ := d__law_order.df X G ["_law_bag_here", "_law_many"] fun _ _ _ _ _ _ us hl => match us, hl with | [_, _], _ => rfl
  obtain ⟨JB, Ig, fk⟩ := d__law_net.df X G ["_law_bag_here", "_law_most"] fun _ _ _ _ _ _ us hl => match us, hl with | [_, _], _ => rfl
  obtain ⟨Ef, C2, cR⟩ := d__law_set_led.df X G ["_law_net_here", "_law_places", "_law_k"] fun _ _ _ _ _ _ us hl => match us, hl with | [_, _, _], _ => rfl
  obtain ⟨JC, Ih, fg⟩ := d__law_met.df X G ["_law_net_here", "_law_places"] fun _ _ _ _ _ _ us hl => match us, hl with | [_, _], _ => rfl
  obtain ⟨JD, Ii, fh⟩ := d__law_due.df X G ["_law_net_here", "_law_places"] fun _ _ _ _ _ _ us hl => match us, hl with | [_, _], _ => rfl
  obtain ⟨HU, En, dM⟩ := d__law_right.df X G ["_law_net_here", "_law_places"] fun _ _ _ _ _ _ us hl => match us, hl with | [_, _], _ => rfl
  obtain ⟨OH, HV, xE⟩ := d_law.df X G ["_law_script"] fun _ _ _ _ _ _ us hl => match us, hl with | [_], _ => rfl
  have Ij := PySem.W.mg_of X G n_RoadError
  have pR := PySem.W.mg_of X G n_NoNet
  have pW := PySem.W.mg_of X G n_NoSet
  have X_ := DF eb
  have pQ : cj ∈ [cj, cL] := by simp
  have pV : cL ∈ [cj, cL] := by simp
  have e := OB.symm.trans xE.mg
  cases e
  have bl : Bl mg := ⟨PySem.W.mg_none_of X G z_len, PySem.W.mg_none_of X G z_range, PySem.W.mg_none_of X G z_min, PySem.W.mg_none_of X G z_max, PySem.W.mg_none_of X G z_abs, PySem.W.mg_none_of X G z_list, PySem.W.mg_none_of X G z_tuple, PySem.W.mg_none_of X G z_int, PySem.W.mg_none_of X G z_str, PySem.W.mg_none_of X G z_bool, PySem.W.mg_none_of X G z_isinstance, PySem.W.mg_none_of X G z_all, PySem.W.mg_none_of X G z_set, PySem.W.mg_none_of X G z_sorted, PySem.W.mg_none_of X G z_zip, PySem.W.mg_none_of X G z_enumerate, PySem.W.mg_none_of X G z_sum, PySem.W.mg_none_of X G z_reversed, PySem.W.mg_none_of X G z_divmod, PySem.W.mg_none_of X G z_any, PySem.W.mg_none_of X G z_ValueError⟩
  obtain ⟨Mk, t_SIGNS⟩ := t_SIGNS
  have jm := PySem.W.mg_of X G t_SIGNS
  obtain ⟨Eg, t_MOST_PLACES⟩ := t_MOST_PLACES
  have gN := PySem.W.mg_of X G t_MOST_PLACES
  obtain ⟨aV, KQ, rfl, BZ, T⟩ := gR T
  obtain ⟨bq, KR, rfl, B1, T⟩ := gR T
  obtain ⟨bt, KS, rfl, B2, T⟩ := gR T
  cases T
  obtain ⟨aJ, Eo, rfl, ud, U⟩ := gR U
  cases U
  refine ⟨HV, fun s v => xE.bind1 s v (by intros; rfl), fun base _ _ ej tr => ?_⟩
  obtain ⟨ky, gM⟩ := om fN X BZ tr
  obtain ⟨tT, kz⟩ := om fO X B1 tr
  obtain ⟨t5, kC⟩ := om fP X B2 tr
  obtain ⟨lX, gy⟩ := om cV X ud tr
  have Ag : aV ∈ (⟨[aV, bq, bt], [(aJ, qI)]⟩ : cG) := by show _ ∈ [aV, bq, bt]; simp
  have Ah : bq ∈ (⟨[aV, bq, bt], [(aJ, qI)]⟩ : cG) := by show _ ∈ [aV, bq, bt]; simp
  have Ai : bt ∈ (⟨[aV, bq, bt], [(aJ, qI)]⟩ : cG) := by show _ ∈ [aV, bq, bt]; simp
  have gP : (aJ, qI) ∈ (⟨[aV, bq, bt], [(aJ, qI)]⟩ : cG).l := by simp
  have gQ : ∀ q ∈ (⟨[aV, bq, bt], [(aJ, qI)]⟩ : cG).l, q.1 = aJ → q.2 = qI := by simp
  have nH := zX (P := l.prog) (w := w) (tb := (⟨[aV, bq, bt], [(aJ, qI)]⟩ : cG)) fO kz Ah fN gM Ag ej aF bp bl gN
  have kD := uD fc fO nH X_ pQ pR
  have nL := Ad (P := l.prog) (w := w) (base := base) (tb := (⟨[aV, bq, bt], [(aJ, qI)]⟩ : cG)) fP kC Ai ej fb aF bp bl
  have kE := uI fe fP nL X_ pV pW
  have jn := rB (P := l.prog) (w := w) (tb := (⟨[aV, bq, bt], [(aJ, qI)]⟩ : cG)) cV gy ej gP gQ d9 cD bl jm
  have jo := rC dJ cV jn bl
  have kF := uK fi fc kD fe kE dJ jo
  have ue := Hw (tb := (⟨[aV, bq, bt], [(aJ, qI)]⟩ : cG)) (uz (P := l.prog) (w := w) (base := base) aj)
  have JE := Jt (tb := (⟨[aV, bq, bt], [(aJ, qI)]⟩ : cG)) (w9 (P := l.prog) (w := w) (base := base) fj bl)
  have Eh := tQ bW aj ue bl
  have JF := xc fk aj ue bW Eh bl
  have JG := pX (P := l.prog) (w := w) (base := base) (tb := (⟨[aV, bq, bt], [(aJ, qI)]⟩ : cG)) cR bl
  have JH := xt fg cR JG bl
  have JI := xu fh fg JH bl
  have Ei := t8 dM fh JI fi kF bl
  exact G2 (HK xE fj JE fk JF aj ue dM Ei bl)
theorem walk {l : PySem.W.OpenLaw} {q : Program} {loose : List Str} {XP : (Str → Option Value) → Heap → Prop} {YP : World → Heap → Prop} {d : DefRec} {K : Params → PySem.W.Frag} (hn : l.most = some 63) (yj : d.params.defaults = [])
    (zy : ∀ w : World, PySem.W.kb_classed (K w.params) = true) (CI : ∀ y ∈ ((["is_row", "is_net", "is_set"] : List Str) ++ (["images_met"] : List Str)), ∃ r ∈ recsOf q, r.name = y) (mQ : ∀ w : World, pO (K w.params) ["is_row", "is_net", "is_set"] ["images_met"] = true) (hY : ∀ (w : World) (h : Heap), YP w h → (K w.params).In h)
    (F : ∀ (w : World) (mg : Str → Option Value) (fa : Addr) (h : Heap) (tabs lts : List Addr), (K w.params).In h → h.Ns mainGlobals mg → mg d.name = some (.ref fa) →
      Paired (TabOf mg h) ["is_row", "is_net", "is_set"] tabs → Paired (TabOf mg h) ["images_met"] lts →
      ∃ fd : FuncData, (∀ (s : Shared) (u : Value), BindsTo s fd ⟨[u], []⟩ [("_law_script", u)]) ∧
        ∀ base : Heap, (K w.params).In base → base.Ns mainGlobals mg → (∃ bm ob, BMod base mainGlobals mg bm ob) → (∀ c p, PySem.W.CodeHd h c p → PySem.W.CodeHd base c p) → FnOk l.prog w (K w.params) mg base bf 12 fa fd ["_law_script"] (spLaw (K w.params) ⟨tabs, lts.zip [qI]⟩)) :
    PySem.W.WalkO q loose XP YP l.row.toRowW d [] (fun f vs => PySem.call f vs) :=
  L2.BC (n := 63) (k := 12) (x := "_law_script") (CX := bf) (sp := fun K tabs lts => spLaw K ⟨tabs, lts.zip [qI]⟩) hn (by decide) yj ⟨rfl, by decide, by decide⟩ zy CI mQ hY F (fun _ _ _ _ a ns hl hn hT hL hS => BD hl hn hT hL hS) fun _ _ _ _ z => z
end My
open PySem PySem.W PyProof.Rows L2
set_option maxRecDepth 100000 in
set_option maxHeartbeats 0 in
theorem PySem.Challenge.cw_roadcall_k34_shortest_of_sets_holds : PySem.Challenge.rw_roadcall_k34_shortest_of_sets.Holds := by
  w_on; o_law; k_head; (case hw => w_witness2)
  k_fill
  refine My.walk (l := PySem.Challenge.rw_roadcall_k34_shortest_of_sets) rfl rfl (fun w => rfl) ?nms ?tdis (fun w h Y => PySem.W.km_in_of Y) ?F
  (case nms => exact Dx (by decide +kernel))
  (case tdis => intro w; kernel_rfl)
  case F =>
    intro w mg fa h tabs lts KX G yk T U
    refine' My.all_mk KX G yk T U ?n_RoadError ?n_NoNet ?n_NoSet ?eb ?ndc ?d_is_whole ?d_is_whole_below ?d_is_row ?d_is_net ?d_need_net ?d_is_place ?d_first_met ?d_is_set ?d_need_set ?d_sign_image ?d_images_met ?d_first_call ?d_shortest ?d__law_bag ?d__law_take ?d__law_order ?d__law_net ?d__law_set_led ?d__law_met ?d__law_due ?d__law_right ?d_law ?z_len ?z_range ?z_min ?z_max ?z_abs ?z_list ?z_tuple ?z_int ?z_str ?z_bool ?z_isinstance ?z_all ?z_set ?z_sorted ?z_zip ?z_enumerate ?z_sum ?z_reversed ?z_divmod ?z_any ?z_ValueError ?t_SIGNS ?t_MOST_PLACES
    (case n_RoadError => k_is)
    (case n_NoNet => k_is)
    (case n_NoSet => k_is)
    (case eb => kernel_rfl)
    (case ndc => decide)
    (case d_is_whole => refine' L2.aZ ?a ?l ?c ?k; (case a => k_is); (case l => k_is); (case c => k_is); (case k => k_is))
    (case d_is_whole_below => refine' L2.aZ ?a ?l ?c ?k; (case a => k_is); (case l => k_is); (case c => k_is); (case k => k_is))
    (case d_is_row => refine' L2.aZ ?a ?l ?c ?k; (case a => k_is); (case l => k_is); (case c => k_is); (case k => k_is))
    (case d_is_net => refine' L2.aZ ?a ?l ?c ?k; (case a => k_is); (case l => k_is); (case c => k_is); (case k => k_is))
    (case d_need_net => refine' L2.aZ ?a ?l ?c ?k; (case a => k_is); (case l => k_is); (case c => k_is); (case k => k_is))
    (case d_is_place => refine' L2.aZ ?a ?l ?c ?k; (case a => k_is); (case l => k_is); (case c => k_is); (case k => k_is))
    (case d_first_met => refine' L2.zD ?a ?l ?c ?k ?t ?u; (case a => k_is); (case l => k_is); (case c => k_is); (case k => k_is); (case t => k_is); (case u => exact rfl))
    (case d_is_set => refine' L2.aZ ?a ?l ?c ?k; (case a => k_is); (case l => k_is); (case c => k_is); (case k => k_is))
    (case d_need_set => refine' L2.aZ ?a ?l ?c ?k; (case a => k_is); (case l => k_is); (case c => k_is); (case k => k_is))
    (case d_sign_image => refine' L2.aZ ?a ?l ?c ?k; (case a => k_is); (case l => k_is); (case c => k_is); (case k => k_is))
    (case d_images_met => refine' L2.aZ ?a ?l ?c ?k; (case a => k_is); (case l => k_is); (case c => k_is); (case k => k_is))
    (case d_first_call => refine' L2.aZ ?a ?l ?c ?k; (case a => k_is); (case l => k_is); (case c => k_is); (case k => k_is))
    (case d_shortest => refine' L2.aZ ?a ?l ?c ?k; (case a => k_is); (case l => k_is); (case c => k_is); (case k => k_is))
    (case d__law_bag => refine' L2.aZ ?a ?l ?c ?k; (case a => k_is); (case l => k_is); (case c => k_is); (case k => k_is))
    (case d__law_take => refine' L2.aZ ?a ?l ?c ?k; (case a => k_is); (case l => k_is); (case c => k_is); (case k => k_is))
    (case d__law_order => refine' L2.aZ ?a ?l ?c ?k; (case a => k_is); (case l => k_is); (case c => k_is); (case k => k_is))
    (case d__law_net => refine' L2.aZ ?a ?l ?c ?k; (case a => k_is); (case l => k_is); (case c => k_is); (case k => k_is))
    (case d__law_set_led => refine' L2.aZ ?a ?l ?c ?k; (case a => k_is); (case l => k_is); (case c => k_is); (case k => k_is))
    (case d__law_met => refine' L2.aZ ?a ?l ?c ?k; (case a => k_is); (case l => k_is); (case c => k_is); (case k => k_is))
    (case d__law_due => refine' L2.aZ ?a ?l ?c ?k; (case a => k_is); (case l => k_is); (case c => k_is); (case k => k_is))
    (case d__law_right => refine' L2.aZ ?a ?l ?c ?k; (case a => k_is); (case l => k_is); (case c => k_is); (case k => k_is))
    (case d_law => refine' L2.aZ ?a ?l ?c ?k; (case a => k_is); (case l => k_is); (case c => k_is); (case k => k_is))
    (case z_len => k_is)
    (case z_range => k_is)
    (case z_min => k_is)
    (case z_max => k_is)
    (case z_abs => k_is)
    (case z_list => k_is)
    (case z_tuple => k_is)
    (case z_int => k_is)
    (case z_str => k_is)
    (case z_bool => k_is)
    (case z_isinstance => k_is)
    (case z_all => k_is)
    (case z_set => k_is)
    (case z_sorted => k_is)
    (case z_zip => k_is)
    (case z_enumerate => k_is)
    (case z_sum => k_is)
    (case z_reversed => k_is)
    (case z_divmod => k_is)
    (case z_any => k_is)
    (case z_ValueError => k_is)
    (case t_SIGNS => refine' L2.AV ?a; (case a => k_is))
    (case t_MOST_PLACES => refine' L2.AW ?a; (case a => k_is))
