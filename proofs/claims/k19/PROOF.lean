import PyProof.Rows.All
import Wide.All
import OpenK.AllK
import Wide.FinOn
import Lean
import PyProof.EqAt
import PyProof.EqKinds
import PyProof.TupleCall
import PyProof.NeKinds
import PyProof.EnumMake
import PyProof.EnumFor
import PyProof.ZipIter
import PyProof.Rows.ZipGen
import KE.KLam
import PyProof.DictItems
import KE.KTurnsDict
import KE.KPairComp
import PySem.Challenge.RW_roadcall_k19_words_come_round
set_option linter.all false
set_option Elab.async false
set_option maxRecDepth 100000

namespace L2
open PySem PySem.Spec PyProof.Rows

abbrev Key := Sum Int Str
def keyIs : Key → Value → Bool
  | .inl k, v => Value.isInt k v
  | .inr x, v => Value.isStrOf x v
def keyH (w : World) : Key → Int
  | .inl k => hashInt k
  | .inr x => hashStr w x
theorem keyIs_shape : ∀ {k : Key} {v : Value}, keyIs k v = true → (∃ i t, k = Sum.inl i ∧ v = Value.int i t) ∨ (∃ x t, k = Sum.inr x ∧ v = Value.str x t)
  | .inl i, v, h => by
    obtain ⟨t, e⟩ := Value.isInt_shape (k := i) (v := v) h
    exact .inl ⟨i, t, rfl, e⟩
  | .inr x, v, h => by
    obtain ⟨t, e⟩ := Value.isStrOf_shape (x := x) (v := v) h
    exact .inr ⟨x, t, rfl, e⟩
theorem keyIs_int (i : Int) (t : Tok) : keyIs (.inl i) (.int i t) = true := by simp [keyIs, Value.isInt]
theorem keyIs_str (x : Str) (t : Tok) : keyIs (.inr x) (.str x t) = true := by simp [keyIs, Value.isStrOf]
theorem key_ll (a b : Int) : decide ((Sum.inl a : Key) = Sum.inl b) = (a == b) := by
  by_cases e : a = b
  · subst e; simp
  · have h : ¬ (Sum.inl a : Key) = Sum.inl b := fun q => e (Sum.inl.inj q)
    rw [decide_eq_false h]
    exact (beq_eq_false_iff_ne.mpr e).symm
theorem key_rr (a b : Str) : decide ((Sum.inr a : Key) = Sum.inr b) = decide (a = b) := by
  by_cases e : a = b
  · subst e; simp
  · have h : ¬ (Sum.inr a : Key) = Sum.inr b := fun q => e (Sum.inr.inj q)
    rw [decide_eq_false h, decide_eq_false e]
theorem key_lr (a : Int) (b : Str) : decide ((Sum.inl a : Key) = Sum.inr b) = false := decide_eq_false (fun q => nomatch q)
theorem key_rl (a : Str) (b : Int) : decide ((Sum.inr a : Key) = Sum.inl b) = false := decide_eq_false (fun q => nomatch q)

def mixKind (prog : Program) (w : World) : PySem.KeyKind prog w Key where
  is := keyIs
  hash := keyH w
  inj := fun v a b ha hb => by
    rcases keyIs_shape ha with ⟨i, t, rfl, rfl⟩ | ⟨x, t, rfl, rfl⟩
    · rcases keyIs_shape hb with ⟨j, u, rfl, e⟩ | ⟨y, u, rfl, e⟩
      · injection e with e1 _; rw [e1]
      · exact nomatch e
    · rcases keyIs_shape hb with ⟨j, u, rfl, e⟩ | ⟨y, u, rfl, e⟩
      · exact nomatch e
      · injection e with e1 _; rw [e1]
  byValue := fun k v h => by
    rcases keyIs_shape h with ⟨i, t, rfl, rfl⟩ | ⟨x, t, rfl, rfl⟩ <;> rfl
  pyHash := fun hv h => by
    rcases keyIs_shape hv with ⟨i, t, rfl, rfl⟩ | ⟨x, t, rfl, rfl⟩
    · exact wpAny_pyHash_int h
    · exact wpAny_pyHash_str h
  eqBool := fun hu hv h => by
    rcases keyIs_shape hu with ⟨i, t, rfl, rfl⟩ | ⟨x, t, rfl, rfl⟩
    · rcases keyIs_shape hv with ⟨j, u, rfl, rfl⟩ | ⟨y, u, rfl, rfl⟩
      · rw [key_ll] at h; exact wpAny_eqBool_int h
      · rw [key_lr] at h; exact SeqAt.EqAt.int_str i t y u _ _ _ _ h
    · rcases keyIs_shape hv with ⟨j, u, rfl, rfl⟩ | ⟨y, u, rfl, rfl⟩
      · rw [key_rl] at h; exact SeqAt.EqAt.str_int x t j u _ _ _ _ h
      · rw [key_rr] at h; exact wpAny_eqBool_str h
  «strs» := fun k x t v h => by
    rcases keyIs_shape h with ⟨i, u, rfl, e⟩ | ⟨y, u, rfl, e⟩
    · exact nomatch e
    · injection e with e1 _
      subst e1
      cases v <;> rfl

theorem mixKind_int (prog : Program) (w : World) (i : Int) (t : Tok) : (mixKind prog w).is (.inl i) (.int i t) = true := keyIs_int i t
theorem mixKind_str (prog : Program) (w : World) (x : Str) (t : Tok) : (mixKind prog w).is (.inr x) (.str x t) = true := keyIs_str x t
end L2

namespace L2
open PySem PySem.Spec PyProof.Rows

inductive V where
  | non | bl (b : Bool) | int (i : Int) | str (x : Str) | byt (b : Array UInt8) | flt (b : UInt64) | ref (a : Addr) | ty (n : String)
  deriving DecidableEq

def RelV : V → Value → Prop
  | .non, u => u = Value.none
  | .bl b, u => u = Value.bool b
  | .int i, u => ∃ t, u = Value.int i t
  | .str x, u => ∃ t, u = Value.str x t
  | .byt b, u => ∃ t, u = Value.bytes b t
  | .flt b, u => ∃ t, u = Value.float b t
  | .ref a, u => u = Value.ref a
  | .ty n, u => u = Value.type n

abbrev Vals : List V → List Value → Prop := Paired RelV
theorem Vals.length {xs : List V} {us : List Value} (r : Vals xs us) : xs.length = us.length := Paired.length r
theorem Vals.get : ∀ {xs : List V} {us : List Value} {i : Nat} {x : V}, Vals xs us → xs[i]? = some x → ∃ u, us[i]? = some u ∧ RelV x u
  | _, _, _, _, .nil, e => by simp at e
  | _, _, 0, _, .cons r _, e => by simp at e; subst e; exact ⟨_, rfl, r⟩
  | _, _, i + 1, x, .cons _ t, e => by
    obtain ⟨u, h1, h2⟩ := Vals.get (i := i) (x := x) t (by simpa using e)
    exact ⟨u, by simpa using h1, h2⟩
theorem Vals.set {x : V} {u : Value} (r : RelV x u) : ∀ {xs : List V} {us : List Value} (i : Nat), Vals xs us → Vals (xs.set i x) (us.set i u)
  | _, _, _, .nil => .nil
  | _, _, 0, .cons _ t => .cons r t
  | _, _, i + 1, .cons q t => .cons q (Vals.set r i t)
theorem Vals.append : ∀ {xs ys : List V} {us ws : List Value}, Vals xs us → Vals ys ws → Vals (xs ++ ys) (us ++ ws)
  | _, _, _, _, .nil, s => s
  | _, _, _, _, .cons r t, s => .cons r (Vals.append t s)
theorem Vals.take : ∀ {xs : List V} {us : List Value} (n : Nat), Vals xs us → Vals (xs.take n) (us.take n)
  | _, _, 0, _ => .nil
  | _, _, _ + 1, .nil => .nil
  | _, _, n + 1, .cons r t => .cons r (Vals.take n t)
theorem Vals.drop : ∀ {xs : List V} {us : List Value} (n : Nat), Vals xs us → Vals (xs.drop n) (us.drop n)
  | _, _, 0, r => r
  | _, _, _ + 1, .nil => .nil
  | _, _, n + 1, .cons _ t => Vals.drop n t
def RelO : Option V → Option Value → Prop
  | some v, some u => RelV v u
  | none, none => True
  | _, _ => False
def KV {κ : Type} : List (κ × V) → List (κ × Value) → Prop := Paired fun (p : κ × V) (q : κ × Value) => p.1 = q.1 ∧ RelV p.2 q.2

def kV : Key → V
  | .inl i => .int i
  | .inr x => .str x

inductive HO where
  
  | lst (xs : List V)
  
  | tup (xs : List V)
  
  | dK (kvs : List (Key × V)) | dT (kvs : List (List Key × V))
  
  | set (S : Int → Bool) (n : Nat)
  
  | ins (C dx : Addr) (fs : List (Str × V))
  
  | own (x : Addr)
  
  | xd (fs : List (Str × V))
  
  | met (f x : Addr)
  
  | rng (lo hi : Int)
  
  | frz (o : Obj) (u : HO)
  
  | tbl (ps : Array Value)
  | lam (ps : Array Value)
  
  | ext (φ : Heap → Prop)

abbrev Hp := Addr → Option HO
def upd (H : Hp) (a : Addr) (o : HO) : Hp := fun b => if b = a then some o else H b
theorem upd_same {H : Hp} {a : Addr} {o : HO} : upd H a o a = some o := by unfold upd; rw [if_pos rfl]
theorem upd_ne {H : Hp} {a b : Addr} {o : HO} (h : b ≠ a) : upd H a o b = H b := by unfold upd; rw [if_neg h]
theorem upd_upd {H : Hp} {a : Addr} {o u : HO} : upd (upd H a o) a u = upd H a u := by
  funext b; unfold upd; split <;> rfl

theorem ne_of {H : Hp} {a b : Addr} {o u : HO} (h : H a = some o) (h' : H b = some u) (d : o ≠ u) : a ≠ b := by
  intro e; subst e; rw [h] at h'; exact d (Option.some.inj h')
theorem ne_of_none {H : Hp} {a b : Addr} {o : HO} (h : H a = some o) (h' : H b = none) : a ≠ b := by
  intro e; subst e; rw [h] at h'; cases h'

section
variable (P : Program) (w : World)

def TupB (h : Heap) (a : Addr) (items : Array Value) : Prop := ∃ o, h.get? a = some o ∧ o.cls = .type "tuple" ∧ ∃ n, o.data = .seq items n ∧ o.dict = none
theorem TupB.tup {h : Heap} {a : Addr} {items : Array Value} (x : TupB h a items) : IsTup h a items := let ⟨o, e, c, n, d, _⟩ := x; ⟨o, e, c, n, d⟩
theorem TupB.lt {h : Heap} {a : Addr} {items : Array Value} (x : TupB h a items) : a < h.objs.size := x.tup.lt
theorem TupB.new (h : Heap) (items : Array Value) : TupB (h.push { cls := .type "tuple", data := .seq items }) h.objs.size items := ⟨_, Heap.get?_push_size _ rfl, rfl, _, rfl, rfl⟩
def ObjOk (H : Hp) (h : Heap) (a : Addr) : HO → Prop
  | .lst xs => xs.length ≤ sizeLine ∧ ∃ (its : List Value) (n : Nat), Vals xs its ∧ h.get? a = some { cls := .type "list", data := .seq its.toArray n }
  | .tup xs => xs.length ≤ sizeLine ∧ ∃ its : List Value, Vals xs its ∧ TupB h a its.toArray
  | .dK kvs => kvs.length ≤ sizeLine ∧ (a == sysModules) = false ∧ ∃ vs, KV kvs vs ∧ h.DictOf (mixKind P w) a vs
  | .dT kvs => kvs.length ≤ sizeLine ∧ (a == sysModules) = false ∧ ∃ xs : List (List Key × Addr × Value),
      Paired (fun (p : List Key × V) (q : List Key × Addr × Value) => p.1 = q.1 ∧ H q.2.1 = some (.tup (p.1.map kV)) ∧ RelV p.2 q.2.2) kvs xs ∧
      ∃ o es ep, h.get? a = some o ∧ o.ExactDict ∧ o.data = .dict es ep ∧ es.toList = xs.map (entryOfKey (tupleKind (mixKind P w))) ∧ (xs.map (·.1)).Nodup
  | .set S n => h.SetOf (intKind P w) a S n
  | .ins C dx fs => H dx = some (.own a) ∧ fs.length ≤ 1000 ∧ dx ≠ a ∧ h.get? a = some (PySem.W.instObj C dx) ∧
      ∃ mA, h.Ns1 dx mA ∧ (∀ f, RelO (fs.lookup f) (mA f)) ∧ PySem.Within mA (fs.map (·.1))
  | .own _ => ∃ o, h.get? a = some o
  | .xd fs => ∃ mA, h.Ns1 a mA ∧ ∀ f, RelO (fs.lookup f) (mA f)
  | .rng lo hi => ∃ t u v, h.get? a = some { cls := .type "range", data := .fields #[.int lo t, .int hi u, .int 1 v] }
  | .frz o u => h.get? a = some o ∧ ObjOk H h a u
  | .tbl ps => h.get? a = some { cls := .none, data := .fields ps }
  | .lam ps => h.get? a = some { cls := .none, data := .fields ps }
  | .met f x => h.get? a = some (PySem.W.methodObj (.ref f) (.ref x))
  | .ext φ => φ h ∧ (∃ o, h.get? a = some o) ∧ ∀ h1 h2 : Heap, φ h1 → (∀ o, h1.get? a = some o → h2.get? a = some o) → φ h2

def HOk (H : Hp) (h : Heap) : Prop := ∀ a o, H a = some o → ObjOk P w H h a o
end

section
variable {P : Program} {w : World} {H H' : Hp} {h h' : Heap} {a : Addr} {o : HO}
theorem ObjOk.lt (x : ObjOk P w H h a o) : a < h.objs.size := by
  cases o with
  | lst xs => obtain ⟨_, _, _, _, e⟩ := x; exact Heap.lt_size e
  | tup xs => obtain ⟨_, _, _, p⟩ := x; exact p.lt
  | dK kvs => obtain ⟨_, _, _, _, o, _, _, e, _⟩ := x; exact Heap.lt_size e
  | dT kvs => obtain ⟨_, _, _, _, o, _, _, e, _⟩ := x; exact Heap.lt_size e
  | set S n => obtain ⟨o, _, _, _, e, _⟩ := x; exact Heap.lt_size e
  | ins C dx fs => obtain ⟨_, _, _, e, _⟩ := x; exact Heap.lt_size e
  | own y => obtain ⟨_, e⟩ := x; exact Heap.lt_size e
  | xd fs => obtain ⟨_, ⟨_, _, _, e, _⟩, _⟩ := x; exact Heap.lt_size e
  | rng lo hi => obtain ⟨_, _, _, e⟩ := x; exact Heap.lt_size e
  | frz ob u => obtain ⟨e, _⟩ := x; exact Heap.lt_size e
  | tbl ps => exact Heap.lt_size (show h.get? a = some _ from x)
  | lam ps => exact Heap.lt_size (show h.get? a = some _ from x)
  | met f y => exact Heap.lt_size (show h.get? a = some _ from x)
  | ext φ => obtain ⟨_, ⟨_, e⟩, _⟩ := x; exact Heap.lt_size e
theorem Paired.mapP {α β : Type} {F G : α → β → Prop} : ∀ {l₁ : List α} {l₂ : List β}, Paired F l₁ l₂ → (∀ a b, F a b → G a b) → Paired G l₁ l₂
  | _, _, .nil, _ => .nil
  | _, _, .cons r t, f => .cons (f _ _ r) (Paired.mapP t f)
theorem ObjOk.stay (x : ObjOk P w H h a o) (k : ∀ b u, (b = a ∨ H b = some (.own a)) → h.get? b = some u → h'.get? b = some u)
    (ho : ∀ b, H b = some (.own a) → H' b = some (.own a)) (ht : ∀ b xs, H b = some (.tup xs) → H' b = some (.tup xs)) : ObjOk P w H' h' a o := by
  induction o with
  | lst xs => obtain ⟨z, its, n, r, e⟩ := x; exact ⟨z, its, n, r, k _ _ (.inl rfl) e⟩
  | tup xs => obtain ⟨z, its, r, ob, e, c⟩ := x; exact ⟨z, its, r, ob, k _ _ (.inl rfl) e, c⟩
  | dK kvs => obtain ⟨z, y, vs, r, ob, es, ep, e, c⟩ := x; exact ⟨z, y, vs, r, ob, es, ep, k _ _ (.inl rfl) e, c⟩
  | dT kvs =>
    obtain ⟨z, y, xs, r, ob, es, ep, e, c⟩ := x
    exact ⟨z, y, xs, Paired.mapP r fun p q z => ⟨z.1, ht _ _ z.2.1, z.2.2⟩, ob, es, ep, k _ _ (.inl rfl) e, c⟩
  | set S n => obtain ⟨ob, es, ep, t, e, c⟩ := x; exact ⟨ob, es, ep, t, k _ _ (.inl rfl) e, c⟩
  | ins C dx fs =>
    obtain ⟨d, z, ne, e, mA, ⟨od, es, ep, e2, c⟩, r⟩ := x
    exact ⟨ho _ d, z, ne, k _ _ (.inl rfl) e, mA, ⟨od, es, ep, k _ _ (.inr d) e2, c⟩, r⟩
  | own y => obtain ⟨ob, e⟩ := x; exact ⟨ob, k _ _ (.inl rfl) e⟩
  | xd fs => obtain ⟨mA, ⟨od, es, ep, e, c⟩, r⟩ := x; exact ⟨mA, ⟨od, es, ep, k _ _ (.inl rfl) e, c⟩, r⟩
  | rng lo hi => obtain ⟨t, u, v, e⟩ := x; exact ⟨t, u, v, k _ _ (.inl rfl) e⟩
  | frz ob u ih => obtain ⟨e, q⟩ := x; exact ⟨k _ _ (.inl rfl) e, ih q⟩
  | tbl ps =>
    have e : h.get? a = some { cls := .none, data := .fields ps } := x
    show h'.get? a = some { cls := .none, data := .fields ps }
    exact k a _ (.inl rfl) e
  | lam ps =>
    have e : h.get? a = some { cls := .none, data := .fields ps } := x
    show h'.get? a = some { cls := .none, data := .fields ps }
    exact k a _ (.inl rfl) e
  | met f y =>
    have e : h.get? a = some (PySem.W.methodObj (.ref f) (.ref y)) := x
    show h'.get? a = some (PySem.W.methodObj (.ref f) (.ref y))
    exact k a _ (.inl rfl) e
  | ext φ => obtain ⟨p, ⟨o, e⟩, st⟩ := x; exact ⟨st _ _ p fun o q => k _ _ (.inl rfl) q, ⟨o, k _ _ (.inl rfl) e⟩, st⟩
theorem HOk.lt (x : HOk P w H h) (e : H a = some o) : a < h.objs.size := (x a o e).lt
theorem HOk.fresh (x : HOk P w H h) (e : h.objs.size ≤ a) : H a = none := by
  cases q : H a with
  | none => rfl
  | some u => exact absurd (Nat.lt_of_lt_of_le (x.lt q) e) (Nat.lt_irrefl _)

theorem HOk.kept (x : HOk P w H h) (k : ∀ b u, h.get? b = some u → h'.get? b = some u) : HOk P w H h' := fun a o e =>
  (x a o e).stay (fun b u _ q => k b u q) (fun _ q => q) fun _ _ q => q

theorem HOk.laid (x : HOk P w H h) (k : ∀ b u, h.get? b = some u → h'.get? b = some u) (hp : h.objs.size ≤ a) (new : ObjOk P w (upd H a o) h' a o) : HOk P w (upd H a o) h' := fun b u e => by
  have hn := x.fresh hp
  by_cases hb : b = a
  · subst hb; rw [upd_same] at e; cases e; exact new
  · rw [upd_ne hb] at e
    exact (x b u e).stay (fun c v _ q => k c v q) (fun c q => by rw [upd_ne (ne_of_none q hn)]; exact q) fun c xs q => by rw [upd_ne (ne_of_none q hn)]; exact q
end

def Rd (H : Hp) (a : Addr) (u : HO) : Prop := H a = some u ∨ ∃ o, H a = some (.frz o u)
theorem Rd.of {H : Hp} {a : Addr} {u : HO} (h : H a = some u) : Rd H a u := .inl h
theorem Rd.ok {P : Program} {w : World} {H : Hp} {h : Heap} {a : Addr} {u : HO} (r : Rd H a u) (x : HOk P w H h) : ObjOk P w H h a u := by
  rcases r with r | ⟨o, r⟩
  · exact x a u r
  · obtain ⟨_, q⟩ := x a _ r
    exact q

def Mut : Option HO → Prop
  | some (.lst _) => True
  | some (.dK _) => True
  | some (.dT _) => True
  | some (.set _ _) => True
  | some (.ins _ _ _) => True
  | some (.ext _) => True
  | some (.lam _) => True
  | _ => False
section
variable {P : Program} {w : World} {H : Hp} {h h' : Heap} {x e : Addr} {o' : HO}

theorem HOk.write (ok : HOk P w H h) (mu : Mut (H x)) (he : e = x ∨ H e = some (.own x)) (k : ∀ b u, b ≠ e → h.get? b = some u → h'.get? b = some u) (heo : ∃ u, h'.get? e = some u)
    (new : ObjOk P w (upd H x o') h' x o') : HOk P w (upd H x o') h' := fun b u q => by
  have nown : ∀ c y, H c = some (.own y) → c ≠ x := fun c y r z => by subst z; rw [r] at mu; exact mu
  have ntup : ∀ c xs, H c = some (.tup xs) → c ≠ x := fun c xs r z => by subst z; rw [r] at mu; exact mu
  by_cases hb : b = x
  · subst hb; rw [upd_same] at q; cases q; exact new
  · rw [upd_ne hb] at q
    by_cases hbe : b = e
    · have q' : H b = some (.own x) := by
        rcases he with z | z
        · exact absurd (hbe.trans z) hb
        · rw [hbe]; exact z
      rw [q] at q'; cases q'
      obtain ⟨v, hv⟩ := heo
      exact ⟨v, by rw [hbe]; exact hv⟩
    · refine (ok b u q).stay (fun c v hc r => k c v ?_ r) (fun c r => by rw [upd_ne (nown c b r)]; exact r) fun c xs r => by rw [upd_ne (ntup c xs r)]; exact r
      rcases hc with rfl | hc
      · exact hbe
      · rintro rfl
        rcases he with z | z
        · exact nown c b hc z
        · rw [hc] at z; cases z; exact hb rfl
end

structure Un (fs ex : List Addr) (H H' : Hp) (h h' : Heap) : Prop where
  keep : ∀ b o, h.get? b = some o → H b = none → b ∉ fs → b ∉ ex → h'.get? b = some o
  slot : ∀ b o, h.get? b = some o → H b = none → b ∈ fs → b ∉ ex → ∃ sl, h'.get? b = some { o with slots := sl }
  free : ∀ b o, h.get? b = some o → H b = none → b ∉ ex → H' b = none
  there : ∀ b o, h.get? b = some o → b ∉ ex → ∃ o', h'.get? b = some o'
  tups : ∀ b xs, H b = some (.tup xs) → H' b = some (.tup xs)
  frzs : ∀ b o u, H b = some (.frz o u) → H' b = some (.frz o u)
  tbls : ∀ b ps, H b = some (.tbl ps) → ∃ more, H' b = some (.tbl (ps ++ more))
section
variable {fs fs' ex ex' : List Addr} {H H1 H2 : Hp} {h h1 h2 h' : Heap} {a x e : Addr} {o : HO}
theorem Un.any (u : Un fs ex H H1 h h1) {b : Addr} {ob : Obj} (q : h.get? b = some ob) (n : H b = none) (hx : b ∉ ex) : ∃ sl, h1.get? b = some { ob with slots := sl } := by
  by_cases hb : b ∈ fs
  · exact u.slot b ob q n hb hx
  · exact ⟨ob.slots, u.keep b ob q n hb hx⟩
theorem Un.trans (a : Un fs ex H H1 h h1) (b : Un fs ex H1 H2 h1 h2) : Un fs ex H H2 h h2 where
  keep := fun c ob q n hc hx => b.keep c ob (a.keep c ob q n hc hx) (a.free c ob q n hx) hc hx
  slot := fun c ob q n hc hx => by
    obtain ⟨sl, e1⟩ := a.slot c ob q n hc hx
    obtain ⟨sl', e2⟩ := b.slot c _ e1 (a.free c ob q n hx) hc hx
    exact ⟨sl', e2⟩
  free := fun c ob q n hx => by
    obtain ⟨o', e1⟩ := a.there c ob q hx
    exact b.free c o' e1 (a.free c ob q n hx) hx
  there := fun c ob q hx => by
    obtain ⟨o', e1⟩ := a.there c ob q hx
    exact b.there c o' e1 hx
  tups := fun c xs q => b.tups c xs (a.tups c xs q)
  frzs := fun c ob xs q => b.frzs c ob xs (a.frzs c ob xs q)
  tbls := fun c ps q => by
    obtain ⟨m1, e1⟩ := a.tbls c ps q
    obtain ⟨m2, e2⟩ := b.tbls c _ e1
    exact ⟨m1 ++ m2, by rw [e2, Array.append_assoc]⟩
theorem Un.kept (k : ∀ b u, h.get? b = some u → h'.get? b = some u) : Un fs ex H H h h' :=
  ⟨fun b ob q _ _ _ => k b ob q, fun b ob q _ _ _ => ⟨ob.slots, k b ob q⟩, fun _ _ _ n _ => n, fun b ob q _ => ⟨ob, k b ob q⟩, fun _ _ q => q, fun _ _ _ q => q, fun _ ps q => ⟨#[], by rw [q]; simp⟩⟩
theorem Un.refl : Un fs ex H H h h := Un.kept fun _ _ q => q
theorem Un.laid (k : ∀ b u, h.get? b = some u → h'.get? b = some u) (hp : h.objs.size ≤ a) (hn : H a = none) : Un fs ex H (upd H a o) h h' where
  keep := fun b u q _ _ _ => k b u q
  slot := fun b u q _ _ _ => ⟨u.slots, k b u q⟩
  free := fun b u q n _ => by rw [upd_ne (Nat.ne_of_lt (Nat.lt_of_lt_of_le (Heap.lt_size q) hp))]; exact n
  there := fun b u q _ => ⟨u, k b u q⟩
  tups := fun b xs q => by rw [upd_ne (ne_of_none q hn)]; exact q
  frzs := fun b u xs q => by rw [upd_ne (ne_of_none q hn)]; exact q
  tbls := fun b ps q => ⟨#[], by rw [upd_ne (ne_of_none q hn), q]; simp⟩
theorem Un.write (mu : Mut (H x)) (he : e = x ∨ H e = some (.own x)) (k : ∀ b u, b ≠ e → h.get? b = some u → h'.get? b = some u) (heo : ∃ u, h'.get? e = some u) : Un fs ex H (upd H x o) h h' := by
  have hx : ∀ b, H b = none → b ≠ x := fun b n z => by subst z; rw [n] at mu; exact mu
  have hb : ∀ b, H b = none → b ≠ e := fun b n z => by
    subst z
    rcases he with r | r
    · exact hx b n r
    · rw [n] at r; cases r
  have hm : ∀ b u, H b = some u → ¬ Mut (some u) → b ≠ x := fun b u q nm z => by subst z; rw [q] at mu; exact nm mu
  refine ⟨fun b u q n _ _ => k b u (hb b n) q, fun b u q n _ _ => ⟨u.slots, k b u (hb b n) q⟩, fun b u q n _ => by rw [upd_ne (hx b n)]; exact n, fun b u q _ => ?_,
    fun b xs q => by rw [upd_ne (hm b _ q fun z => z)]; exact q, fun b u xs q => by rw [upd_ne (hm b _ q fun z => z)]; exact q, fun b ps q => ⟨#[], by rw [upd_ne (hm b _ q fun z => z), q]; simp⟩⟩
  by_cases hbe : b = e
  · subst hbe; exact heo
  · exact ⟨u, k b u hbe q⟩
theorem Un.mono (u : Un fs ex H H1 h h1) (hs : ∀ b ∈ fs, b ∈ fs') (hx : ∀ b ∈ ex, b ∈ ex') : Un fs' ex' H H1 h h1 :=
  ⟨fun b ob q n hb he => u.keep b ob q n (fun z => hb (hs b z)) fun z => he (hx b z), fun _ _ q n _ he => u.any q n fun z => he (hx _ z), fun b ob q n he => u.free b ob q n fun z => he (hx b z), fun b ob q he => u.there b ob q fun z => he (hx b z), u.tups, u.frzs, u.tbls⟩
end

def trk (h : Heap) (H : Hp) : List Addr := (List.range h.objs.size).filter fun a => (H a).isSome
def hidT (h : Heap) (H : Hp) : Heap := PySem.W.hideAll h (trk h H)
theorem hidT_size (h : Heap) (H : Hp) : (hidT h H).objs.size = h.objs.size := PySem.W.hideAll_size _ _
theorem hidT_get {h : Heap} {H : Hp} {b : Addr} {o : Obj} (e : h.get? b = some o) (n : H b = none) : (hidT h H).get? b = some o :=
  PySem.W.hideAll_get _ e fun hm => by
    have q : (H b).isSome = true := (List.mem_filter.mp hm).2
    rw [n] at q; simp at q
theorem of_hidT {h : Heap} {H : Hp} {b : Addr} {o : Obj} (e : (hidT h H).get? b = some o) : h.get? b = some o ∧ H b = none := by
  have e' : h.get? b = some o := PySem.W.of_hideAll (trk h H) e
  refine ⟨e', ?_⟩
  cases q : H b with
  | none => rfl
  | some x =>
    have hm : b ∈ trk h H := List.mem_filter.mpr ⟨List.mem_range.mpr (Heap.lt_size e'), by simp [q]⟩
    have z : (hidT h H).get? b = none := PySem.W.hideAll_none (trk h H) hm
    rw [z] at e; cases e

def allNews (g h : Heap) (L : Addr) : List (Addr × Obj) := (List.range h.objs.size).filterMap fun a => if a = L ∨ (g.get? a).isSome = true then none else (h.get? a).map fun o => (a, o)
def rest (g h : Heap) (L d : Addr) : List (Addr × Obj) := (allNews g h L).filter fun p => decide (p.1 ≠ d)
end L2

namespace L2
open PySem PySem.Spec PyProof.Rows

structure Mod (K : PySem.W.Frag) (mg : Str → Option Value) (base : Heap) : Prop where
  kin : K.In base
  glob : base.Ns mainGlobals mg
  blt : ∃ mb, base.Ns builtinsNs mb ∧ ∀ x : Str, x ≠ "__name__" → mb x = bootBuiltins x
  nolimit : base.NoLimit

structure Cx where
  prog : Program
  w : World
  K : PySem.W.Frag
  mg : Str → Option Value
  base : Heap
  A : Around
  N : List Str
  s₀ : Shared
  H₀ : Hp
  env : Env
  outer : List Env
  stack : List Env
  ex : List Addr
  fn : Str → Bool
  calm : Bool
  pn : List (Addr × Obj)
  xe : Value → Shared → Prop

def frs (l : List Env) : List Addr := l.filterMap (·.frame)
abbrev Cx.fs (X : Cx) : List Addr := frs X.outer

def Vis (sc : Scope) (x : Str) : Prop := sc.names.lookup x = some .local ∨ sc.names.lookup x = some .cell ∨ sc.names.lookup x = some .free
def Loc (sc : Scope) (x : Str) : Prop := sc.names.lookup x = some .local ∨ sc.names.lookup x = some .cell
def Look (env : Env) (h : Heap) (m : Str → Option Value) (x : Str) (u : Value) : Prop :=
  (env.kindOf x = some .local ∧ m x = some u) ∨ ((env.kindOf x = some .cell ∨ env.kindOf x = some .free) ∧ ∃ c, env.cells.lookup x = some c ∧ h.IsCell c (some u))

structure Cx.Ok (X : Cx) : Prop where
  mod : Mod X.K X.mg X.base
  kind : X.env.scope.kind = .function
  glob : X.env.globals = mainGlobals
  blt : X.env.builtins = builtinsNs
  above : X.s₀.heap.objs.size ≤ X.env.locals
  inj : ∀ x y c, X.env.cells.lookup x = some c → X.env.cells.lookup y = some c → x = y
  has : ∀ x, (X.env.kindOf x = some .cell ∨ X.env.kindOf x = some .free) → ∃ c, X.env.cells.lookup x = some c
  cab : ∀ x c, X.fn x = true → X.env.cells.lookup x = some c → X.s₀.heap.objs.size ≤ c
  hd : X.calm = true → X.A.handled = none
  frames : X.A.frames = some X.stack
  stk : X.stack = X.outer ∨ (X.stack = X.env :: X.outer ∧ X.env.frame = some X.env.locals)
  exf : ∀ b ∈ X.ex, b ≠ X.env.locals ∧ ∀ x c, X.env.cells.lookup x = some c → c ≠ b
  bs : ∀ b o, X.base.get? b = some o → X.s₀.heap.get? b = some o ∧ X.H₀ b = none
  bsz : X.base.objs.size ≤ X.s₀.heap.objs.size
  noex : ∀ b o, X.base.get? b = some o → b ∉ X.ex
  exfs : ∀ b ∈ X.ex, b ∉ X.fs
  funs : X.s₀.heap.FunFrames X.base X.outer
  frf : ∀ b ∈ X.fs, X.H₀ b = none

def Gn (n : Nat) (g : Array GenState) : Prop := AllBare g ∧ n ≤ g.size
theorem Gn.self {n : Nat} {g : Array GenState} (x : Gn n g) : Gn g.size g := ⟨x.1, Nat.le_refl _⟩
theorem Gn.trans {n : Nat} {g g' : Array GenState} (x : Gn n g) (y : Gn g.size g') : Gn n g' := ⟨y.1, Nat.le_trans x.2 y.2⟩
structure Inv (X : Cx) (pins : List (Addr × Obj)) (σ : List (Option V)) (H : Hp) (s : Shared) : Prop where
  ok : X.Ok
  os : s.os = X.s₀.os
  bare : Gn X.s₀.gens.size s.gens
  base : Un X.fs X.ex X.H₀ H X.s₀.heap s.heap
  loc : ∃ m, s.heap.Ns X.env.locals m ∧ ∀ (i : Nat) (x : Str) (v : V), X.N[i]? = some x → σ[i]? = some (some v) → Vis X.env.scope x → ∃ u, RelV v u ∧ Look X.env s.heap m x u
  cell : ∀ x c, X.env.cells.lookup x = some c → ∃ v, s.heap.IsCell c v
  free : H X.env.locals = none
  freeC : ∀ x c, X.env.cells.lookup x = some c → H c = none
  pin : ∀ p ∈ X.pn ++ pins, s.heap.get? p.1 = some p.2 ∧ H p.1 = none ∧ p.1 ≠ X.env.locals ∧ p.1 ∉ X.fs ∧ ∀ v, p.2.data ≠ .cell v
  hok : HOk X.prog X.w H s.heap
  len : σ.length = X.N.length

section
variable {X : Cx} {pins : List (Addr × Obj)} {σ : List (Option V)} {H H' : Hp} {s : Shared} {h' : Heap}

theorem Cx.Ok.nofr (ok : X.Ok) {b : Addr} {o : Obj} (e : X.base.get? b = some o) : b ∉ X.fs := fun hb => by
  have := (ok.funs.mem hb).1
  rw [e] at this; cases this
theorem Inv.bs (I : Inv X pins σ H s) : ∀ b o, X.base.get? b = some o → s.heap.get? b = some o ∧ H b = none := fun b o e =>
  ⟨I.base.keep b o (I.ok.bs b o e).1 (I.ok.bs b o e).2 (I.ok.nofr e) (I.ok.noex b o e), I.base.free b o (I.ok.bs b o e).1 (I.ok.bs b o e).2 (I.ok.noex b o e)⟩
theorem Inv.bk (I : Inv X pins σ H s) : ∀ b o, X.base.get? b = some o → s.heap.get? b = some o := fun b o e => (I.bs b o e).1
theorem Inv.mod (I : Inv X pins σ H s) : Mod X.K X.mg X.base := I.ok.mod
theorem Inv.kIn (I : Inv X pins σ H s) : X.K.In s.heap := I.ok.mod.kin.keeps I.bk
theorem Inv.nolimit (I : Inv X pins σ H s) : s.heap.NoLimit := I.ok.mod.nolimit.keeps I.bk

theorem Inv.fr (I : Inv X pins σ H s) : ∃ m, Fr X.base X.env.locals s.heap m :=
  let ⟨m, hn, _⟩ := I.loc
  ⟨m, hn, I.bk, Nat.le_trans I.ok.bsz I.ok.above⟩
theorem Inv.lt (I : Inv X pins σ H s) : X.env.locals < s.heap.objs.size := let ⟨_, hn, _⟩ := I.loc; hn.lt
theorem Inv.sz (I : Inv X pins σ H s) : X.s₀.heap.objs.size ≤ s.heap.objs.size := Nat.le_trans I.ok.above (Nat.le_of_lt I.lt)
theorem Inv.nofs (I : Inv X pins σ H s) {a : Addr} (h : s.heap.objs.size ≤ a) : a ∉ X.fs := fun hb => by
  obtain ⟨_, o, ho, _⟩ := I.ok.funs.mem hb
  exact absurd (Nat.lt_of_lt_of_le (Heap.lt_size ho) (Nat.le_trans I.sz h)) (Nat.lt_irrefl _)
theorem Inv.cne (I : Inv X pins σ H s) : ∀ x c, X.env.cells.lookup x = some c → c ≠ X.env.locals := fun x c e z => by
  obtain ⟨v, o, ho, hd⟩ := I.cell x c e
  obtain ⟨m, ⟨o', es, ep, ho', hd', _⟩, _⟩ := I.loc
  rw [z, ho'] at ho; cases ho; rw [hd'] at hd; cases hd
theorem Inv.funs (I : Inv X pins σ H s) : s.heap.FunFrames X.base X.outer := by
  have all : ∀ (l : List Env), (∀ b ∈ frs l, b ∈ X.fs) → X.s₀.heap.FunFrames X.base l → s.heap.FunFrames X.base l := by
    intro l
    induction l with
    | nil => intro _ _; trivial
    | cons env r ih =>
      intro hs hl
      obtain ⟨hk, ⟨L, o, hf, hn, ho, hd⟩, hr⟩ := hl
      have hL : L ∈ X.fs := hs L (by unfold frs; rw [List.filterMap_cons, hf]; exact List.mem_cons_self)
      obtain ⟨sl, e⟩ := I.base.slot L o ho (I.ok.frf L hL) hL fun z => I.ok.exfs L z hL
      exact ⟨hk, ⟨L, _, hf, hn, e, hd⟩, ih (fun b hb => hs b (by unfold frs; rw [List.filterMap_cons, hf]; exact List.mem_cons_of_mem _ hb)) hr⟩
  exact all X.outer (fun _ hb => hb) I.ok.funs

theorem Inv.stack (I : Inv X pins σ H s) : s.heap.FunFrames X.base X.stack := by
  rcases I.ok.stk with e | ⟨e, hf⟩
  · rw [e]; exact I.funs
  · rw [e]
    obtain ⟨m, hn, _⟩ := I.loc
    refine .cons (by rw [I.ok.kind]; decide) hf hn ?_ I.funs
    exact Heap.get?_none_of_le (Nat.le_trans I.ok.bsz I.ok.above)
theorem Inv.stkSub (I : Inv X pins σ H s) : ∀ b ∈ frs X.stack, b ∈ X.env.locals :: X.fs := fun b hb => by
  rcases I.ok.stk with e | ⟨e, hf⟩
  · rw [e] at hb; exact List.mem_cons_of_mem _ hb
  · rw [e] at hb
    unfold frs at hb
    rw [List.filterMap_cons, hf] at hb
    exact hb
theorem Inv.stkFree (I : Inv X pins σ H s) : ∀ b ∈ frs X.stack, H b = none := fun b hb => by
  rcases List.mem_cons.mp (I.stkSub b hb) with e | hb
  · rw [e]; exact I.free
  · obtain ⟨_, o, ho, _⟩ := I.ok.funs.mem hb
    exact I.base.free b o ho (I.ok.frf b hb) fun z => I.ok.exfs b z hb

theorem Inv.step {g' : Array GenState} {t' : Nat} {d' : Drawn} {ch : List Addr} (I : Inv X pins σ H s)
    (hch : ∀ b ∈ ch, (b ∈ X.ex ∨ X.s₀.heap.objs.size ≤ b) ∧ b ≠ X.env.locals ∧ (∀ x c, X.env.cells.lookup x = some c → c ≠ b) ∧ ∀ p ∈ X.pn ++ pins, p.1 ≠ b)
    (keep : ∀ b o, b ≠ X.env.locals → b ∉ X.fs → b ∉ ch → s.heap.get? b = some o → H b = none → h'.get? b = some o)
    (slot : ∀ b o, b ≠ X.env.locals → b ∈ X.fs → b ∉ ch → s.heap.get? b = some o → H b = none → ∃ sl, h'.get? b = some { o with slots := sl }) (free : ∀ b o, b ∉ ch → s.heap.get? b = some o → H b = none → H' b = none)
    (there : ∀ b o, b ∉ ch → s.heap.get? b = some o → ∃ o', h'.get? b = some o')
    (tups : ∀ b xs, H b = some (.tup xs) → H' b = some (.tup xs)) (frzs : ∀ b o u, H b = some (.frz o u) → H' b = some (.frz o u)) (tbls : ∀ b ps, H b = some (.tbl ps) → ∃ more, H' b = some (.tbl (ps ++ more)))
    (ns : ∀ m, s.heap.Ns X.env.locals m → h'.Ns X.env.locals m) (hok : HOk X.prog X.w H' h') (hg : Gn s.gens.size g') :
    Inv X pins σ H' { s with heap := h', gens := g', drawn := d', toks := t' } := by
  have neL : ∀ b o, X.s₀.heap.get? b = some o → b ≠ X.env.locals := fun b o e => Nat.ne_of_lt (Nat.lt_of_lt_of_le (Heap.lt_size e) I.ok.above)
  have neC : ∀ b o, X.s₀.heap.get? b = some o → b ∉ X.ex → b ∉ ch := fun b o e hx hb => by
    rcases (hch b hb).1 with z | z
    · exact hx z
    · exact absurd (Nat.lt_of_lt_of_le (Heap.lt_size e) z) (Nat.lt_irrefl _)
  have cellK : ∀ x c, X.env.cells.lookup x = some c → ∀ v, s.heap.IsCell c v → h'.IsCell c v := fun x c e v ⟨o, ho, hd⟩ => by
    have nch : c ∉ ch := fun z => (hch c z).2.2.1 x c e rfl
    by_cases hc : c ∈ X.fs
    · obtain ⟨sl, q⟩ := slot c o (I.cne x c e) hc nch ho (I.freeC x c e)
      exact ⟨_, q, hd⟩
    · exact ⟨o, keep c o (I.cne x c e) hc nch ho (I.freeC x c e), hd⟩
  refine ⟨I.ok, I.os, I.bare.trans hg, ⟨fun b o e n hb hx => ?_, fun b o e n hb hx => ?_, fun b o e n hx => ?_, fun b o e hx => ?_, fun b xs e => tups b xs (I.base.tups b xs e), fun b o xs e => frzs b o xs (I.base.frzs b o xs e), fun b ps e => ?_⟩, ?_, fun x c e => ?_, ?_, fun x c e => ?_, fun p hp => ?_, hok, I.len⟩
  · exact keep b o (neL b o e) hb (neC b o e hx) (I.base.keep b o e n hb hx) (I.base.free b o e n hx)
  · obtain ⟨sl, e1⟩ := I.base.slot b o e n hb hx
    obtain ⟨sl', e2⟩ := slot b _ (neL b o e) hb (neC b o e hx) e1 (I.base.free b o e n hx)
    exact ⟨sl', e2⟩
  · obtain ⟨o', e1⟩ := I.base.there b o e hx
    exact free b o' (neC b o e hx) e1 (I.base.free b o e n hx)
  · obtain ⟨o', e1⟩ := I.base.there b o e hx
    exact there b o' (neC b o e hx) e1
  · obtain ⟨m1, e1⟩ := I.base.tbls b ps e
    obtain ⟨m2, e2⟩ := tbls b _ e1
    exact ⟨m1 ++ m2, by rw [e2, Array.append_assoc]⟩
  · obtain ⟨m, hn, hl⟩ := I.loc
    refine ⟨m, ns m hn, fun i x v e1 e2 e3 => ?_⟩
    obtain ⟨u, r, l⟩ := hl i x v e1 e2 e3
    refine ⟨u, r, ?_⟩
    rcases l with l | ⟨k, c, e, z⟩
    · exact .inl l
    · exact .inr ⟨k, c, e, cellK x c e _ z⟩
  · obtain ⟨v, z⟩ := I.cell x c e
    exact ⟨v, cellK x c e v z⟩
  · obtain ⟨m, ⟨o, _, _, ho, _⟩, _⟩ := I.loc
    exact free _ o (fun z => (hch _ z).2.1 rfl) ho I.free
  · obtain ⟨v, o, ho, hd⟩ := I.cell x c e
    exact free c o (fun z => (hch c z).2.2.1 x c e rfl) ho (I.freeC x c e)
  · obtain ⟨e, n, ne, nf, d⟩ := I.pin p hp
    have nch : p.1 ∉ ch := fun z => (hch p.1 z).2.2.2 p hp rfl
    exact ⟨keep p.1 p.2 ne nf nch e n, free p.1 p.2 nch e n, ne, nf, d⟩

theorem Inv.un {t' : Nat} (I : Inv X pins σ H s) (u : Un X.fs [] H H' s.heap h') (hok : HOk X.prog X.w H' h') : Inv X pins σ H' { s with heap := h', toks := t' } := by
  obtain ⟨m, ⟨o, es, ep, ho, r⟩, _⟩ := id I.loc
  obtain ⟨sl, hL⟩ := u.any ho I.free (by simp)
  exact I.step (g' := s.gens) (d' := s.drawn) (ch := []) (fun _ z => nomatch z) (fun b o _ hb _ e n => u.keep b o e n hb (by simp)) (fun b o _ hb _ e n => u.slot b o e n hb (by simp)) (fun b o _ e n => u.free b o e n (by simp)) (fun b o _ e => u.there b o e (by simp)) u.tups u.frzs u.tbls (fun m' hm => by
    obtain ⟨o', es', ep', ho', r'⟩ := hm
    rw [ho] at ho'; cases ho'
    exact ⟨_, es', ep', hL, r'⟩) hok I.bare.self

theorem Inv.call {g' : Array GenState} {t' : Nat} {d' : Drawn} {ch : List Addr} (I : Inv X pins σ H s) (u : Un (frs X.stack) ch H H' s.heap h') (hok : HOk X.prog X.w H' h') (hg : Gn s.gens.size g')
    (hch : ∀ b ∈ ch, (b ∈ X.ex ∨ X.s₀.heap.objs.size ≤ b) ∧ b ≠ X.env.locals ∧ (∀ x c, X.env.cells.lookup x = some c → c ≠ b) ∧ ∀ p ∈ X.pn ++ pins, p.1 ≠ b) :
    Inv X pins σ H' { s with heap := h', gens := g', drawn := d', toks := t' } := by
  obtain ⟨m, ⟨o, es, ep, ho, r⟩, _⟩ := id I.loc
  obtain ⟨sl, hL⟩ := u.any ho I.free fun z => (hch _ z).2.1 rfl
  exact I.step (ch := ch) hch (fun b o hL hb hc e n => u.keep b o e n (fun z => (List.mem_cons.mp (I.stkSub b z)).elim hL hb) hc) (fun b o _ _ hc e n => u.any e n hc) (fun b o hc e n => u.free b o e n hc) (fun b o hc e => u.there b o e hc) u.tups u.frzs u.tbls (fun m' hm => by
    obtain ⟨o', es', ep', ho', r'⟩ := hm
    rw [ho] at ho'; cases ho'
    exact ⟨_, es', ep', hL, r'⟩) hok hg

theorem Inv.turned {t' : Nat} {it : Addr} (I : Inv X pins σ H s) (k : ∀ b o, b ≠ it → s.heap.get? b = some o → h'.get? b = some o) (hn : H it = none) (hL : it ≠ X.env.locals)
    (h1 : it ∈ X.ex ∨ X.s₀.heap.objs.size ≤ it) (h2 : ∀ x c, X.env.cells.lookup x = some c → c ≠ it) (h3 : ∀ p ∈ X.pn ++ pins, p.1 ≠ it) : Inv X pins σ H { s with heap := h', toks := t' } := by
  have nit : ∀ b u, H b = some u → b ≠ it := fun b u e z => by rw [z, hn] at e; cases e
  refine I.step (g' := s.gens) (d' := s.drawn) (ch := [it]) (fun b hb => ?_) (fun b o _ _ hc e _ => k b o (fun z => hc (by simp [z])) e) (fun b o _ _ hc e _ => ⟨o.slots, k b o (fun z => hc (by simp [z])) e⟩) (fun _ _ _ _ n => n)
    (fun b o hc e => ⟨o, k b o (fun z => hc (by simp [z])) e⟩) (fun _ _ e => e) (fun _ _ _ e => e) (fun b ps e => ⟨#[], by rw [e]; simp⟩) (fun m hm => ?_) (fun b u e => ?_) I.bare.self
  · have e : b = it := by simpa using hb
    subst e
    exact ⟨h1, hL, h2, h3⟩
  · obtain ⟨o, es, ep, ho, r⟩ := hm
    exact ⟨o, es, ep, k _ o (Ne.symm hL) ho, r⟩
  · refine (I.hok b u e).stay (fun c v hc q => k c v ?_ q) (fun _ q => q) fun _ _ q => q
    rcases hc with z | z
    · rw [z]; exact nit b u e
    · exact nit c _ z
theorem Inv.tok (I : Inv X pins σ H s) (t : Nat) : Inv X pins σ H { s with toks := t } := I.un (h' := s.heap) (t' := t) Un.refl I.hok

theorem Inv.kept {t' : Nat} (I : Inv X pins σ H s) (k : ∀ b u, s.heap.get? b = some u → h'.get? b = some u) : Inv X pins σ H { s with heap := h', toks := t' } := I.un (Un.kept k) (I.hok.kept k)

theorem Inv.laid {a : Addr} {o : HO} {t' : Nat} (I : Inv X pins σ H s) (k : ∀ b u, s.heap.get? b = some u → h'.get? b = some u) (hp : s.heap.objs.size ≤ a) (new : ObjOk X.prog X.w (upd H a o) h' a o) :
    Inv X pins σ (upd H a o) { s with heap := h', toks := t' } := I.un (Un.laid k hp (I.hok.fresh hp)) (I.hok.laid k hp new)

theorem Inv.write {x e : Addr} {o : HO} {t' : Nat} (I : Inv X pins σ H s) (mu : Mut (H x)) (he : e = x ∨ H e = some (.own x)) (k : ∀ b u, b ≠ e → s.heap.get? b = some u → h'.get? b = some u) (heo : ∃ u, h'.get? e = some u)
    (new : ObjOk X.prog X.w (upd H x o) h' x o) : Inv X pins σ (upd H x o) { s with heap := h', toks := t' } := I.un (Un.write mu he k heo) (I.hok.write mu he k heo new)

theorem Inv.pins_of {pins' : List (Addr × Obj)} (I : Inv X pins σ H s) (h : ∀ p ∈ pins', s.heap.get? p.1 = some p.2 ∧ H p.1 = none ∧ p.1 ≠ X.env.locals ∧ p.1 ∉ X.fs ∧ ∀ v, p.2.data ≠ .cell v) : Inv X pins' σ H s :=
  ⟨I.ok, I.os, I.bare, I.base, I.loc, I.cell, I.free, I.freeC, fun p hp => (List.mem_append.mp hp).elim (fun z => I.pin p (List.mem_append_left _ z)) (h p), I.hok, I.len⟩

theorem nodup_ix {N : List Str} (hN : N.Nodup) {i j : Nat} {x : Str} (a : N[i]? = some x) (b : N[j]? = some x) : i = j := by
  obtain ⟨h1, e1⟩ := List.getElem?_eq_some_iff.mp a
  obtain ⟨h2, e2⟩ := List.getElem?_eq_some_iff.mp b
  exact (List.getElem_inj hN).mp (e1.trans e2.symm)

theorem store_ok2 {M : Model} {A : Around} {E : Value → Shared → Prop} {i : Nat} {x : Str} {v : V} {u : Value} {Q : Unit → Shared → Prop} (I : Inv X pins σ H s) (hN : X.N.Nodup) (hi : X.N[i]? = some x) (hx : Loc X.env.scope x) (r : RelV v u)
    (h : ∀ s', Inv X pins (σ.set i (some v)) H s' → (∃ a, Heap.SameBut a s.heap s'.heap ∧ (a = X.env.locals ∨ X.env.cells.lookup x = some a)) → Q () s') (hf : X.fn x = true ∨ X.env.scope.names.lookup x = some .local := by first | exact .inl rfl | exact .inr rfl | assumption) : wpAny M A (storeName X.env x u) Q E s := by
  obtain ⟨m, hn, hl⟩ := id I.loc
  have hcls : (X.env.scope.kind == .class || (X.env.scope.kind == .module && X.env.locals != X.env.globals)) = false := by rw [I.ok.kind]; rfl
  have hiσ : i < σ.length := by rw [I.len]; exact (List.getElem?_eq_some_iff.mp hi).1
  have cne := I.cne
  have tracked : ∀ {a : Addr} {h' : Heap}, (∃ o, s.heap.get? a = some o ∧ H a = none) → Heap.SameBut a s.heap h' → HOk X.prog X.w H h' := fun {a h'} ha hs b ob e => by
    obtain ⟨_, _, hfree⟩ := ha
    refine (I.hok b ob e).stay (fun c w' hc q => (hs.2 c ?_).trans q) (fun _ q => q) fun _ _ q => q
    rintro rfl
    rcases hc with rfl | hc
    · rw [hfree] at e; cases e
    · rw [hfree] at hc; cases hc
  rcases hx with hk | hk
  · refine wpAny_storeName_local hk hn (fun h' hn' hs => ?_) hcls
    obtain ⟨oL, _, _, hoL, _⟩ := id hn
    refine h _ ⟨I.ok, I.os, I.bare, ⟨fun b o e n hb hx => ?_, fun b o e n hb hx => ?_, I.base.free, fun b o e hx => ?_, I.base.tups, I.base.frzs, I.base.tbls⟩, ⟨_, hn', fun j y v' e1 e2 e3 => ?_⟩, fun y c e => ?_, I.free, I.freeC, fun p hp => ?_, tracked ⟨oL, hoL, I.free⟩ hs, by simpa using I.len⟩ ⟨_, hs, .inl rfl⟩
    · exact (hs.2 b (Nat.ne_of_lt (Nat.lt_of_lt_of_le (Heap.lt_size e) I.ok.above))).trans (I.base.keep b o e n hb hx)
    · obtain ⟨sl, e1⟩ := I.base.slot b o e n hb hx
      exact ⟨sl, (hs.2 b (Nat.ne_of_lt (Nat.lt_of_lt_of_le (Heap.lt_size e) I.ok.above))).trans e1⟩
    · obtain ⟨o', e1⟩ := I.base.there b o e hx
      exact ⟨o', (hs.2 b (Nat.ne_of_lt (Nat.lt_of_lt_of_le (Heap.lt_size e) I.ok.above))).trans e1⟩
    · by_cases hj : j = i
      · subst hj
        rw [hi] at e1; cases e1
        rw [List.getElem?_set_self hiσ] at e2
        cases e2
        exact ⟨u, r, .inl ⟨hk, by simp⟩⟩
      · rw [List.getElem?_set_ne (Ne.symm hj)] at e2
        obtain ⟨u', r', q⟩ := hl j y v' e1 e2 e3
        refine ⟨u', r', ?_⟩
        rcases q with ⟨k, e⟩ | ⟨k, c, e, z⟩
        · refine .inl ⟨k, ?_⟩
          have : y ≠ x := fun e => hj (nodup_ix hN e1 (e ▸ hi))
          simp [this, e]
        · exact .inr ⟨k, c, e, z.sameBut hs (cne y c e)⟩
    · obtain ⟨w', z⟩ := I.cell y c e
      exact ⟨w', z.sameBut hs (cne y c e)⟩
    · obtain ⟨e, n, ne, nf, d⟩ := I.pin p hp
      exact ⟨(hs.2 p.1 ne).trans e, n, ne, nf, d⟩
  · have hfn : X.fn x = true := by
      rcases hf with z | z
      · exact z
      · rw [z] at hk; cases hk
    obtain ⟨c, hc⟩ := I.ok.has x (.inl hk)
    obtain ⟨w', z⟩ := I.cell x c hc
    refine wpAny_storeName_cell I.ok.kind hk hc z (fun h' hc' hs => ?_)
    obtain ⟨oc, hoc, hocd⟩ := id z
    refine h { s with heap := h' } ⟨I.ok, I.os, I.bare, ⟨fun b o e n hb hx => ?_, fun b o e n hb hx => ?_, I.base.free, fun b o e hx => ?_, I.base.tups, I.base.frzs, I.base.tbls⟩, ⟨m, hn.sameBut hs (Ne.symm (cne x c hc)), fun j y v' e1 e2 e3 => ?_⟩, fun y c' e => ?_, I.free, I.freeC, fun p hp => ?_, tracked ⟨oc, hoc, I.freeC x c hc⟩ hs, by simpa using I.len⟩ ⟨c, hs, .inr hc⟩
    · exact (hs.2 b (Nat.ne_of_lt (Nat.lt_of_lt_of_le (Heap.lt_size e) (I.ok.cab x c hfn hc)))).trans (I.base.keep b o e n hb hx)
    · obtain ⟨sl, e1⟩ := I.base.slot b o e n hb hx
      exact ⟨sl, (hs.2 b (Nat.ne_of_lt (Nat.lt_of_lt_of_le (Heap.lt_size e) (I.ok.cab x c hfn hc)))).trans e1⟩
    · obtain ⟨o', e1⟩ := I.base.there b o e hx
      exact ⟨o', (hs.2 b (Nat.ne_of_lt (Nat.lt_of_lt_of_le (Heap.lt_size e) (I.ok.cab x c hfn hc)))).trans e1⟩
    · by_cases hj : j = i
      · subst hj
        rw [hi] at e1; cases e1
        rw [List.getElem?_set_self hiσ] at e2
        cases e2
        exact ⟨u, r, .inr ⟨.inl hk, c, hc, hc'⟩⟩
      · rw [List.getElem?_set_ne (Ne.symm hj)] at e2
        obtain ⟨u', r', q⟩ := hl j y v' e1 e2 e3
        refine ⟨u', r', ?_⟩
        rcases q with q | ⟨k, c', e, z'⟩
        · exact .inl q
        · refine .inr ⟨k, c', e, z'.sameBut hs ?_⟩
          rintro rfl
          exact hj (nodup_ix hN e1 (I.ok.inj _ _ _ e hc ▸ hi))
    · by_cases hcc : c' = c
      · subst hcc; exact ⟨_, hc'⟩
      · obtain ⟨w2, z2⟩ := I.cell y c' e
        exact ⟨w2, z2.sameBut hs hcc⟩
    · obtain ⟨e, n, ne, nf, d⟩ := I.pin p hp
      refine ⟨(hs.2 p.1 ?_).trans e, n, ne, nf, d⟩
      intro q
      rw [q, hoc] at e
      have q' : oc = p.2 := Option.some.inj e
      exact d w' (by rw [← q']; exact hocd)
theorem store_ok {M : Model} {A : Around} {E : Value → Shared → Prop} {i : Nat} {x : Str} {v : V} {u : Value} {Q : Unit → Shared → Prop} (I : Inv X pins σ H s) (hN : X.N.Nodup) (hi : X.N[i]? = some x) (hx : Loc X.env.scope x) (r : RelV v u)
    (h : ∀ s', Inv X pins (σ.set i (some v)) H s' → Q () s') (hf : X.fn x = true ∨ X.env.scope.names.lookup x = some .local := by first | exact .inl rfl | exact .inr rfl | assumption) : wpAny M A (storeName X.env x u) Q E s :=
  store_ok2 I hN hi hx r (fun s' I' _ => h s' I') hf

theorem Inv.call' {s' : Shared} {ch : List Addr} (I : Inv X pins σ H s) (ho : s'.os = s.os) (u : Un (frs X.stack) ch H H' s.heap s'.heap) (hok : HOk X.prog X.w H' s'.heap) (hg : Gn s.gens.size s'.gens)
    (hch : ∀ b ∈ ch, (b ∈ X.ex ∨ X.s₀.heap.objs.size ≤ b) ∧ b ≠ X.env.locals ∧ (∀ x c, X.env.cells.lookup x = some c → c ≠ b) ∧ ∀ p ∈ X.pn ++ pins, p.1 ≠ b) : Inv X pins σ H' s' := by
  obtain ⟨h', g', d', t', o'⟩ := s'
  have e : o' = s.os := ho
  subst e
  exact I.call (g' := g') (t' := t') (d' := d') u hok hg hch
end

abbrev XK := Value → Option Addr → Hp → Prop
abbrev St := List (Option V)
abbrev VK := V → Hp → Prop

abbrev TE := St → Hp → VK → Prop
abbrev TT := St → Hp → (Bool → Hp → Prop) → Prop
abbrev TA := St → Hp → (List V → Hp → Prop) → Prop

structure Ends where
  nx : St → Hp → Prop
  rt : VK
  bk : St → Hp → Prop := fun _ _ => False
  ct : St → Hp → Prop := fun _ _ => False
abbrev TS := Ends → St → Hp → Prop

def EP (X : Cx) (pins : List (Addr × Obj)) (σ : St) (Q : VK) (u : Value) (s' : Shared) : Prop := ∃ v H', Inv X pins σ H' s' ∧ RelV v u ∧ Q v H'
def TP (X : Cx) (pins : List (Addr × Obj)) (σ : St) (Q : Bool → Hp → Prop) (b : Bool) (s' : Shared) : Prop := ∃ H', Inv X pins σ H' s' ∧ Q b H'
def AP (X : Cx) (pins : List (Addr × Obj)) (σ : St) (Q : List V → Hp → Prop) (us : List Value) (s' : Shared) : Prop := ∃ vs H', Inv X pins σ H' s' ∧ Vals vs us ∧ Q vs H'
def SP (X : Cx) (pins : List (Addr × Obj)) (D : Ends) (f : Flow) (s' : Shared) : Prop :=
  match f with
  | .next => ∃ σ' H', Inv X pins σ' H' s' ∧ D.nx σ' H'
  | .brk => ∃ σ' H', Inv X pins σ' H' s' ∧ D.bk σ' H'
  | .cont => ∃ σ' H', Inv X pins σ' H' s' ∧ D.ct σ' H'
  | .ret u => ∃ v σ' H', Inv X pins σ' H' s' ∧ RelV v u ∧ D.rt v H'

structure PE (X : Cx) (e : Expr) (t : TE) : Prop where
  run : ∀ (pins : List (Addr × Obj)) (s : Shared) (σ : St) (H : Hp) (Q : VK), Inv X pins σ H s → t σ H Q → wpAny (model X.prog X.w) X.A (eval e X.env) (EP X pins σ Q) X.xe s
instance {X : Cx} {e : Expr} {t : TE} : CoeFun (PE X e t) (fun _ => ∀ (pins : List (Addr × Obj)) (s : Shared) (σ : St) (H : Hp) (Q : VK), Inv X pins σ H s → t σ H Q → wpAny (model X.prog X.w) X.A (eval e X.env) (EP X pins σ Q) X.xe s) := ⟨PE.run⟩
structure PT (X : Cx) (e : Expr) (t : TT) : Prop where
  run : ∀ (pins : List (Addr × Obj)) (s : Shared) (σ : St) (H : Hp) (Q : Bool → Hp → Prop), Inv X pins σ H s → t σ H Q → wpAny (model X.prog X.w) X.A (isTrue e X.env (eval e X.env)) (TP X pins σ Q) X.xe s
instance {X : Cx} {e : Expr} {t : TT} : CoeFun (PT X e t) (fun _ => ∀ (pins : List (Addr × Obj)) (s : Shared) (σ : St) (H : Hp) (Q : Bool → Hp → Prop), Inv X pins σ H s → t σ H Q → wpAny (model X.prog X.w) X.A (isTrue e X.env (eval e X.env)) (TP X pins σ Q) X.xe s) := ⟨PT.run⟩

def PW (X : Cx) (e : Expr) (t : TT) : Prop :=
  ∀ (whole : Sem Value) (pins : List (Addr × Obj)) (s : Shared) (σ : St) (H : Hp) (Q : Bool → Hp → Prop), Inv X pins σ H s → t σ H Q → wpAny (model X.prog X.w) X.A (isTrue e X.env whole) (TP X pins σ Q) X.xe s
theorem PW.pt {X : Cx} {e : Expr} {t : TT} (h : PW X e t) : PT X e t := ⟨h _⟩

structure PA (X : Cx) (es : List Expr) (t : TA) : Prop where
  run : ∀ (pos : Pos) (pins : List (Addr × Obj)) (s : Shared) (σ : St) (H : Hp) (Q : List V → Hp → Prop), Inv X pins σ H s → t σ H Q → wpAny (model X.prog X.w) X.A (spliced (backTo pos (starEach es X.env))) (AP X pins σ Q) X.xe s
instance {X : Cx} {es : List Expr} {t : TA} : CoeFun (PA X es t) (fun _ => ∀ (pos : Pos) (pins : List (Addr × Obj)) (s : Shared) (σ : St) (H : Hp) (Q : List V → Hp → Prop), Inv X pins σ H s → t σ H Q → wpAny (model X.prog X.w) X.A (spliced (backTo pos (starEach es X.env))) (AP X pins σ Q) X.xe s) := ⟨PA.run⟩
structure PS (X : Cx) (st : Stmt) (t : TS) : Prop where
  run : ∀ (pins : List (Addr × Obj)) (s : Shared) (σ : St) (H : Hp) (D : Ends), Inv X pins σ H s → t D σ H → wpAny (model X.prog X.w) X.A (exec st X.env) (SP X pins D) X.xe s
instance {X : Cx} {st : Stmt} {t : TS} : CoeFun (PS X st t) (fun _ => ∀ (pins : List (Addr × Obj)) (s : Shared) (σ : St) (H : Hp) (D : Ends), Inv X pins σ H s → t D σ H → wpAny (model X.prog X.w) X.A (exec st X.env) (SP X pins D) X.xe s) := ⟨PS.run⟩
structure PSs (X : Cx) (st : List Stmt) (t : TS) : Prop where
  run : ∀ (pins : List (Addr × Obj)) (s : Shared) (σ : St) (H : Hp) (D : Ends), Inv X pins σ H s → t D σ H → wpAny (model X.prog X.w) X.A (execs st X.env) (SP X pins D) X.xe s
instance {X : Cx} {st : List Stmt} {t : TS} : CoeFun (PSs X st t) (fun _ => ∀ (pins : List (Addr × Obj)) (s : Shared) (σ : St) (H : Hp) (D : Ends), Inv X pins σ H s → t D σ H → wpAny (model X.prog X.w) X.A (execs st X.env) (SP X pins D) X.xe s) := ⟨PSs.run⟩

theorem thn {α : Type} {t : Sem α} {Q Q' : α → Shared → Prop} {M : Model} {A : Around} {E : Value → Shared → Prop} {s : Shared} (h : wpAny M A t Q E s) (hQ : ∀ a s, Q a s → Q' a s) : wpAny M A t Q' E s := wpAny_mono h hQ fun _ _ x => x
end L2

namespace L2
open PySem PySem.Spec PyProof.Rows
section
variable {X : Cx}

def tVar (i : Nat) : TE := fun σ H Q => ∃ v, σ[i]? = some (some v) ∧ Q v H
def tC (v : V) : TE := fun _ H Q => Q v H
theorem pe_var {i : Nat} {x : Str} {pos : Pos} (hN : X.N[i]? = some x) (hv : Vis X.env.scope x) (hd : (x == ("__debug__" : Str)) = false := by decide) (hcd : (x == ("__classdict__" : Str)) = false := by decide) : PE X (.Name x pos) (tVar i) := by
  refine ⟨?_⟩
  intro pins s σ H Q I h
  obtain ⟨v, e, h⟩ := h
  obtain ⟨m, hn, hl⟩ := I.loc
  obtain ⟨u, r, l⟩ := hl i x v hN e hv
  have fin : EP X pins σ Q u s := ⟨v, H, I, r, h⟩
  rcases l with ⟨hk, hm⟩ | ⟨hk, c, hc, hcell⟩
  · exact wpAny_Name (wpAny_loadName_local I.ok.kind hk hn hm fin) hd
  · rcases hk with hk | hk
    · exact wpAny_Name (wpAny_loadName_cell I.ok.kind hk hc hcell fin) hd
    · exact wpAny_Name (wpAny_loadName_free I.ok.kind hk hc hcell fin hcd) hd
theorem pe_int {i j pos} : PE X (.Constant (.int i) j pos) (tC (.int i)) := ⟨fun _ _ _ H _ I h => wpAny_Constant_int ⟨.int i, H, I.tok _, ⟨_, rfl⟩, h⟩⟩
theorem pe_bl {b j pos} : PE X (.Constant (.bool b) j pos) (tC (.bl b)) := ⟨fun _ _ _ H _ I h => Constant_bool ⟨.bl b, H, I, rfl, h⟩⟩
theorem pe_str {x j pos} : PE X (.Constant (.str x) j pos) (tC (.str x)) := ⟨fun _ _ _ H _ I h => Calls.Constant_str ⟨.str x, H, I.tok _, ⟨_, rfl⟩, h⟩⟩

def Gl (X : Cx) (x : Str) : Prop := X.env.kindOf x = some .globalImplicit
theorem ld_glob {E : Value → Shared → Prop} {pins : List (Addr × Obj)} {s : Shared} {σ : St} {H : Hp} {x : Str} {u : Value} {pos : Pos} {Q : Value → Shared → Prop} (I : Inv X pins σ H s) (hg : Gl X x) (hm : X.mg x = some u) (h : Q u s)
    (hd : (x == ("__debug__" : Str)) = false := by decide) : wpAny (model X.prog X.w) X.A (eval (.Name x pos) X.env) Q E s :=
  Calls.Name_function_global I.ok.kind hg (Calls.loadGlobal_global (by rw [I.ok.glob]; exact I.mod.glob.keeps I.bk) hm h) hd
theorem ld_blt {E : Value → Shared → Prop} {pins : List (Addr × Obj)} {s : Shared} {σ : St} {H : Hp} {x : Str} {u : Value} {pos : Pos} {Q : Value → Shared → Prop} (I : Inv X pins σ H s) (hg : Gl X x) (hm : X.mg x = none) (hv : bootBuiltins x = some u) (h : Q u s)
    (hn : x ≠ "__name__" := by decide) (hd : (x == ("__debug__" : Str)) = false := by decide) : wpAny (model X.prog X.w) X.A (eval (.Name x pos) X.env) Q E s := by
  obtain ⟨mb, h1, h2⟩ := I.mod.blt
  exact Calls.Name_function_global I.ok.kind hg (Calls.loadGlobal_builtin (by rw [I.ok.glob]; exact I.mod.glob.keeps I.bk) hm (by rw [I.ok.blt]; exact h1.keeps I.bk) ((h2 x hn).trans hv) h) hd

theorem pe_glob {x : Str} {v : V} {u : Value} {pos : Pos} (hg : Gl X x) (hm : X.mg x = some u) (r : RelV v u) (hd : (x == ("__debug__" : Str)) = false := by decide) : PE X (.Name x pos) (tC v) := ⟨fun _ _ _ H _ I h => ld_glob I hg hm ⟨v, H, I, r, h⟩ hd⟩
theorem pe_bltn {x : Str} {v : V} {u : Value} {pos : Pos} (hg : Gl X x) (hm : X.mg x = none) (hv : bootBuiltins x = some u) (r : RelV v u) (hn : x ≠ "__name__" := by decide) (hd : (x == ("__debug__" : Str)) = false := by decide) : PE X (.Name x pos) (tC v) := ⟨fun _ _ _ H _ I h => ld_blt I hg hm hv ⟨v, H, I, r, h⟩ hn hd⟩

variable {a b : Expr} {ta tb : TE} {pos : Pos}
def tB (t : TE) : TT := fun σ H Q => t σ H fun x H1 => ∃ c, x = .bl c ∧ Q c H1
theorem pt_val {e : Expr} {t : TE} (h : PE X e t) (he : ∀ whole, isTrue e X.env whole = (do let v ← whole; standAt e.pos; holding [v] (truthy v)) := by intro _; rfl) : PT X e (tB t) := by
  refine ⟨?_⟩
  intro pins s σ H Q I hw
  refine isTrue_plain (thn (h pins s σ H _ I hw) fun v s1 ⟨x, H1, I1, r1, q1⟩ => ?_) (he _)
  obtain ⟨d, rfl, q⟩ := q1
  cases r1
  exact wpAny_truthy_bool ⟨H1, I1, q⟩

variable {tA tB' : TT} {rest : List Expr}
def tOr (t u : TT) : TT := fun σ H Q => t σ H fun c H1 => if c = true then Q true H1 else u σ H1 Q
def tNot (t : TT) : TT := fun σ H Q => t σ H fun c H1 => Q (!c) H1
theorem pw_or1 (ha : PT X a tA) : PW X (.BoolOp .Or [a] pos) tA := by
  intro wh pins s σ H Q I h
  refine isTrue_or (thn (ha pins s σ H Q I h) fun c s1 e => ?_)
  cases c with
  | false => exact isTrue_or_nil e
  | true => exact e
theorem pw_or (ha : PT X a tA) (hb : PW X (.BoolOp .Or (b :: rest) pos) tB') : PW X (.BoolOp .Or (a :: b :: rest) pos) (tOr tA tB') := by
  intro wh pins s σ H Q I h
  refine isTrue_or (thn (ha pins s σ H _ I h) fun c s1 ⟨H1, I1, q1⟩ => ?_)
  cases c with
  | true => exact ⟨H1, I1, q1⟩
  | false => exact hb wh pins s1 σ H1 Q I1 q1
theorem pt_not (ha : PT X a tA) : PT X (.UnaryOp .Not a pos) (tNot tA) := by
  refine ⟨?_⟩
  intro pins s σ H Q I h
  exact isTrue_not (ha pins s σ H (fun c H1 => Q (!c) H1) I h)

def tAndV (ta tb : TE) : TE := fun σ H Q => ta σ H fun x H1 => ∃ c, x = .bl c ∧ if c = true then tb σ H1 Q else Q (.bl false) H1
def tNotV (ta : TE) : TE := fun σ H Q => ta σ H fun x H1 => ∃ c, x = .bl c ∧ Q (.bl (!c)) H1
theorem pe_one {op} {t : TE} (h : PE X a t) : PE X (.BoolOp op [a] pos) t := ⟨fun pins s σ H Q I hw => BoolOp_one (h pins s σ H Q I hw)⟩
theorem pe_and (ha : PE X a ta) (hb : PE X (.BoolOp .And (b :: rest) pos) tb) : PE X (.BoolOp .And (a :: b :: rest) pos) (tAndV ta tb) := by
  refine ⟨?_⟩
  intro pins s σ H Q I h
  refine BoolOp_and (thn (ha pins s σ H _ I h) fun v s1 ⟨x, H1, I1, r1, q1⟩ => ?_)
  obtain ⟨c, rfl, q1⟩ := q1
  cases r1
  refine wpAny_truthy_bool ?_
  cases c with
  | true => exact hb pins s1 σ H1 Q I1 q1
  | false => exact ⟨.bl false, H1, I1, rfl, q1⟩
theorem pe_not (ha : PE X a ta) : PE X (.UnaryOp .Not a pos) (tNotV ta) := by
  refine ⟨?_⟩
  intro pins s σ H Q I h
  refine UnaryOp_ (thn (ha pins s σ H _ I h) fun v s1 ⟨x, H1, I1, r1, q1⟩ => ?_)
  obtain ⟨c, rfl, q1⟩ := q1
  cases r1
  exact not_of (wpAny_truthy_bool ⟨.bl (!c), H1, I1, rfl, q1⟩)

end
end L2

namespace L2
open PySem PySem.Spec PyProof.Rows

def SqL (K : PySem.W.Frag) (H : Hp) (a : Addr) (xs : List V) : Prop :=
  Rd H a (.lst xs) ∨
    ∃ (o : Obj) (its : Array Value) (n : Nat), K.lookup a = some o ∧ o.cls = .type "list" ∧ o.dict = none ∧ o.data = .seq its n ∧ its.size ≤ sizeLine ∧ Vals xs its.toList
def SqT (K : PySem.W.Frag) (H : Hp) (a : Addr) (xs : List V) : Prop :=
  Rd H a (.tup xs) ∨
    ∃ (o : Obj) (its : Array Value) (n : Nat), K.lookup a = some o ∧ o.cls = .type "tuple" ∧ o.data = .seq its n ∧ its.size ≤ sizeLine ∧ Vals xs its.toList
def absV : Value → Option V
  | .none => some .non
  | .bool b => some (.bl b)
  | .int i _ => some (.int i)
  | .str x _ => some (.str x)
  | .bytes b _ => some (.byt b)
  | .float b _ => some (.flt b)
  | .ref a => some (.ref a)
  | .type n => some (.ty n)
  | _ => none
theorem RelV.abs {x : V} {u : Value} (r : RelV x u) : absV u = some x := by
  cases x with
  | non => cases r; rfl
  | bl _ => cases r; rfl
  | int _ => obtain ⟨t, rfl⟩ := r; rfl
  | str _ => obtain ⟨t, rfl⟩ := r; rfl
  | byt _ => obtain ⟨t, rfl⟩ := r; rfl
  | flt _ => obtain ⟨t, rfl⟩ := r; rfl
  | ref _ => cases r; rfl
  | ty _ => cases r; rfl
theorem RelV.inj {x y : V} {u : Value} (r : RelV x u) (q : RelV y u) : x = y := Option.some.inj (r.abs.symm.trans q.abs)
theorem Vals.inj : ∀ {xs ys : List V} {us : List Value}, Vals xs us → Vals ys us → xs = ys
  | _, _, _, .nil, .nil => rfl
  | _, _, _, .cons r t, .cons r' t' => by rw [r.inj r', Vals.inj t t']
section
variable {X : Cx} {pins : List (Addr × Obj)} {σ : St} {H : Hp} {s : Shared} {a : Addr} {xs ys : List V}
theorem SqL.of {K : PySem.W.Frag} (h : H a = some (.lst xs)) : SqL K H a xs := .inl (.inl h)
theorem SqT.of {K : PySem.W.Frag} (h : H a = some (.tup xs)) : SqT K H a xs := .inl (.inl h)
theorem Inv.list (I : Inv X pins σ H s) (h : SqL X.K H a xs) : ∃ its : List Value, Vals xs its ∧ PlainL s.heap a its.toArray ∧ xs.length ≤ sizeLine := by
  rcases h with h | ⟨o, its, n, hk, hc, hd, hs, hz, r⟩
  · obtain ⟨z, its, n, r, e⟩ := h.ok I.hok
    exact ⟨its, r, ⟨_, n, e, rfl, rfl, rfl⟩, z⟩
  · refine ⟨its.toList, r, ⟨o, n, I.kIn a o hk, hc, hd, by simpa using hs⟩, ?_⟩
    have e := r.length
    simp only [Array.length_toList] at e
    omega
theorem Inv.tuple (I : Inv X pins σ H s) (h : SqT X.K H a xs) : ∃ its : List Value, Vals xs its ∧ IsTup s.heap a its.toArray ∧ xs.length ≤ sizeLine := by
  rcases h with h | ⟨o, its, n, hk, hc, hs, hz, r⟩
  · obtain ⟨z, its, r, p⟩ := h.ok I.hok
    exact ⟨its, r, TupB.tup p, z⟩
  · refine ⟨its.toList, r, ⟨o, I.kIn a o hk, hc, n, by simpa using hs⟩, ?_⟩
    have e := r.length
    simp only [Array.length_toList] at e
    omega
theorem Inv.list_inj (I : Inv X pins σ H s) (h : SqL X.K H a xs) (h' : SqL X.K H a ys) : xs = ys := by
  obtain ⟨its, r, ⟨o, n, e, _, _, d⟩, _⟩ := I.list h
  obtain ⟨its', r', ⟨o', n', e', _, _, d'⟩, _⟩ := I.list h'
  rw [e] at e'; cases e'
  rw [d] at d'
  injection d' with d1 _
  have : its = its' := by simpa using congrArg Array.toList d1
  subst this
  exact r.inj r'
theorem Inv.tuple_inj (I : Inv X pins σ H s) (h : SqT X.K H a xs) (h' : SqT X.K H a ys) : xs = ys := by
  obtain ⟨its, r, ⟨o, e, _, n, d⟩, _⟩ := I.tuple h
  obtain ⟨its', r', ⟨o', e', _, n', d'⟩, _⟩ := I.tuple h'
  rw [e] at e'; cases e'
  rw [d] at d'
  injection d' with d1 _
  have : its = its' := by simpa using congrArg Array.toList d1
  subst this
  exact r.inj r'
end

abbrev Cx.wish (X : Cx) (E : Value → Shared → Prop) : Cx := { X with xe := E }

abbrev Cx.nox (X : Cx) : Cx := X.wish fun _ _ => False
theorem Cx.Ok.wish {X : Cx} (ok : X.Ok) (E : Value → Shared → Prop) : (X.wish E).Ok :=
  ⟨ok.mod, ok.kind, ok.glob, ok.blt, ok.above, ok.inj, ok.has, ok.cab, ok.hd, ok.frames, ok.stk, ok.exf, ok.bs, ok.bsz, ok.noex, ok.exfs, ok.funs, ok.frf⟩
theorem Cx.Ok.unwish {X : Cx} {E : Value → Shared → Prop} (ok : (X.wish E).Ok) : X.Ok :=
  ⟨ok.mod, ok.kind, ok.glob, ok.blt, ok.above, ok.inj, ok.has, ok.cab, ok.hd, ok.frames, ok.stk, ok.exf, ok.bs, ok.bsz, ok.noex, ok.exfs, ok.funs, ok.frf⟩
section
variable {X : Cx} {pins : List (Addr × Obj)} {σ : St} {H : Hp} {s : Shared} {E : Value → Shared → Prop}
theorem Inv.wish (I : Inv X pins σ H s) (E : Value → Shared → Prop) : Inv (X.wish E) pins σ H s := ⟨I.ok.wish E, I.os, I.bare, I.base, I.loc, I.cell, I.free, I.freeC, I.pin, I.hok, I.len⟩
theorem Inv.unwish (I : Inv (X.wish E) pins σ H s) : Inv X pins σ H s := ⟨I.ok.unwish, I.os, I.bare, I.base, I.loc, I.cell, I.free, I.freeC, I.pin, I.hok, I.len⟩
theorem SP.unwish {D : Ends} {f : Flow} {s' : Shared} (h : SP (X.wish E) pins D f s') : SP X pins D f s' := by
  cases f with
  | next => obtain ⟨σ', H', I, q⟩ := h; exact ⟨σ', H', I.unwish, q⟩
  | brk => obtain ⟨σ', H', I, q⟩ := h; exact ⟨σ', H', I.unwish, q⟩
  | cont => obtain ⟨σ', H', I, q⟩ := h; exact ⟨σ', H', I.unwish, q⟩
  | ret u => obtain ⟨v, σ', H', I, r, q⟩ := h; exact ⟨v, σ', H', I.unwish, r, q⟩
theorem PE.nox {e : Expr} {t : TE} (h : PE X.nox e t) : PE X e t := ⟨fun pins s σ H Q I hw =>
  wpAny_mono (h pins s σ H Q (I.wish _) hw) (fun _ _ ⟨v, H', I', r, q⟩ => ⟨v, H', I'.unwish, r, q⟩) fun _ _ z => False.elim z⟩
theorem PT.nox {e : Expr} {t : TT} (h : PT X.nox e t) : PT X e t := ⟨fun pins s σ H Q I hw =>
  wpAny_mono (h pins s σ H Q (I.wish _) hw) (fun _ _ ⟨H', I', q⟩ => ⟨H', I'.unwish, q⟩) fun _ _ z => False.elim z⟩
theorem PSs.nox {st : List Stmt} {t : TS} (h : PSs X.nox st t) : PSs X st t := ⟨fun pins s σ H D I hw =>
  wpAny_mono (h pins s σ H D (I.wish _) hw) (fun _ _ q => q.unwish) fun _ _ z => False.elim z⟩
end

section
variable {X : Cx} {st : Stmt} {rest : List Stmt} {t u : TS} {e : Expr} {te : TE} {pos : Pos}
def tNext : TS := fun D σ H => D.nx σ H
def tSeq (t u : TS) : TS := fun D σ H => t { D with nx := u D } σ H
theorem pss_nil : PSs X [] tNext := ⟨fun _ _ σ H _ I h => wpAny_execs_nil ⟨σ, H, I, h⟩⟩
theorem pss_cons (h1 : PS X st t) (h2 : PSs X rest u) : PSs X (st :: rest) (tSeq t u) := by
  refine ⟨?_⟩
  intro pins s σ H D I h
  refine wpAny_execs_cons (thn (h1 pins s σ H { D with nx := u D } I h) fun f s1 q => ?_)
  cases f with
  | next =>
    obtain ⟨σ', H', I', q⟩ := q
    exact h2 pins s1 σ' H' D I' q
  | ret v => exact q
  | brk => exact q
  | cont => exact q
theorem pss_one (h1 : PS X st t) : PSs X [st] t := by
  refine ⟨?_⟩
  intro pins s σ H D I h
  refine wpAny_execs_cons (thn (h1 pins s σ H D I h) fun f s1 q => ?_)
  cases f with
  | next => exact wpAny_execs_nil q
  | ret v => exact q
  | brk => exact q
  | cont => exact q
theorem Inv.quiet {pins : List (Addr × Obj)} {σ : St} {H : Hp} {s : Shared} (I : Inv X pins σ H s) : interactive X.env = false := by simp [interactive, I.ok.kind]

def tDrop (te : TE) : TS := fun D σ H => te σ H fun _ H1 => D.nx σ H1
theorem ps_expr (he : PE X e te) (hs : swapsWith e none pos.line X.env = pure false := by rfl) : PS X (.Expr e pos) (tDrop te) := by
  refine ⟨?_⟩
  intro pins s σ H D I h
  exact wpAny_Expr_any (thn (he pins s σ H _ I h) fun v s1 ⟨x, H1, I1, r1, q1⟩ => ⟨σ, H1, I1, q1⟩) I.quiet hs
def tRet (te : TE) : TS := fun D σ H => te σ H D.rt
theorem ps_ret (he : PE X e te) : PS X (.Return (some e) pos) (tRet te) := by
  refine ⟨?_⟩
  intro pins s σ H D I h
  exact wpAny_Return_some (thn (he pins s σ H _ I h) fun v s1 ⟨x, H1, I1, r1, q1⟩ => ⟨x, σ, H1, I1, r1, q1⟩)
def tIfS (c : TT) (t u : TS) : TS := fun D σ H => c σ H fun b H1 => if b = true then t D σ H1 else u D σ H1
theorem ps_if {c : Expr} {a b : List Stmt} {tc : TT} (hc : PT X c tc) (ha : PSs X a t) (hb : PSs X b u) : PS X (.If c a b pos) (tIfS tc t u) := by
  refine ⟨?_⟩
  intro pins s σ H D I h
  refine wpAny_If (thn (hc pins s σ H _ I h) fun d s1 ⟨H1, I1, q1⟩ => ?_)
  cases d with
  | true => exact ha pins s1 σ H1 D I1 q1
  | false => exact hb pins s1 σ H1 D I1 q1

end

abbrev TG := V → St → Hp → (St → Hp → Prop) → Prop
abbrev TGs := List V → St → Hp → (St → Hp → Prop) → Prop
def PG (X : Cx) (target : Expr) (t : TG) : Prop :=
  ∀ (pins : List (Addr × Obj)) (s : Shared) (σ : St) (H : Hp) (v : V) (u : Value) (Q : St → Hp → Prop), Inv X pins σ H s → RelV v u → t v σ H Q →
    wpAny (model X.prog X.w) X.A (assign target X.env u) (fun _ s' => ∃ σ' H', Inv X pins σ' H' s' ∧ Q σ' H') X.xe s

def PGs (X : Cx) (ts : List Expr) (t : TGs) : Prop :=
  ∀ (pins : List (Addr × Obj)) (s : Shared) (σ : St) (H : Hp) (vs : List V) (us : List Value) (Q : St → Hp → Prop), Inv X pins σ H s → Vals vs us → t vs σ H Q →
    wpAny (model X.prog X.w) X.A (assignInOrder ((assignEach ts X.env).map (·.2)) us) (fun _ s' => ∃ σ' H', Inv X pins σ' H' s' ∧ Q σ' H') X.xe s

abbrev TSet := V → V → V → Hp → (Hp → Prop) → Prop
def PSet (X : Cx) (t : TSet) : Prop :=
  ∀ (pins : List (Addr × Obj)) (s : Shared) (σ : St) (H : Hp) (o i v : V) (ov iv u : Value) (Q : Hp → Prop), Inv X pins σ H s → RelV o ov → RelV i iv → RelV v u → t o i v H Q →
    wpAny (model X.prog X.w) X.A (setItem ov iv u) (fun _ s' => ∃ H', Inv X pins σ H' s' ∧ Q H') X.xe s

section
variable {X : Cx} {pos : Pos}
def gName (i : Nat) : TG := fun v σ H Q => Q (σ.set i (some v)) H
theorem pg_name {i : Nat} {x : Str} (hN : X.N.Nodup) (hi : X.N[i]? = some x) (hx : Loc X.env.scope x) (hf : X.fn x = true ∨ X.env.scope.names.lookup x = some .local := by first | exact .inl rfl | exact .inr rfl | assumption) : PG X (.Name x pos) (gName i) := by
  intro pins s σ H v u Q I r h
  exact wpAny_assign_Name (store_ok I hN hi hx r (fun s' I' => ⟨_, H, I', h⟩) hf)
def gNil : TGs := fun vs σ H Q => vs = [] ∧ Q σ H
def gCons (t : TG) (u : TGs) : TGs := fun vs σ H Q => ∃ v r, vs = v :: r ∧ t v σ H fun σ' H' => u r σ' H' Q
theorem pgs_nil : PGs X [] gNil := by
  intro pins s σ H vs us Q I r h
  obtain ⟨e, h⟩ := h
  subst e
  cases r
  exact assignInOrder_nil ⟨σ, H, I, h⟩
theorem pgs_cons {e : Expr} {es : List Expr} {t : TG} {u : TGs} (h1 : PG X e t) (h2 : PGs X es u)
    (hs : (assignEach (e :: es) X.env).map (·.2) = assign e X.env :: (assignEach es X.env).map (·.2) := by rfl) : PGs X (e :: es) (gCons t u) := by
  intro pins s σ H vs us Q I r h
  obtain ⟨v, vr, e1, h⟩ := h
  subst e1
  cases r with
  | cons r rr =>
    rw [hs]
    refine assignInOrder_cons (thn (h1 pins s σ H _ _ _ I r h) fun _ s1 ⟨σ1, H1, I1, q1⟩ => ?_)
    exact h2 pins s1 σ1 H1 _ _ Q I1 rr q1

def gTup (K : PySem.W.Frag) (n : Nat) (t : TGs) : TG := fun v σ H Q => ∃ a xs, v = .ref a ∧ SqT K H a xs ∧ xs.length = n ∧ t xs σ H Q
theorem pg_tup {es : List Expr} {k : Nat} {t : TGs} {n : Nat} (hc : X.calm = true) (h : PGs X es t)
    (hn : (assignEach es X.env).length = n := by rfl) (hst : (assignEach es X.env).findIdx? (·.1) = none := by rfl) : PG X (.Tuple es k pos) (gTup X.K n t) := by
  intro pins s σ H v u Q I r hw
  obtain ⟨a, xs, e1, hq, hl, hw⟩ := hw
  subst e1
  cases r
  obtain ⟨its, rv, ht, hz⟩ := I.tuple hq
  refine assign_Tuple_tuple (I.ok.hd hc) ht (by simp [hn, ← hl, rv.length]) hst fun h' hx => ?_
  have I1 : Inv X pins σ H { s with heap := h' } := I.kept (t' := s.toks) fun b o e => hx b o (Nat.ne_of_lt (Heap.lt_size e)) e
  exact h pins _ σ H xs _ Q I1 (by simpa using rv) hw

def gSub (to ti : TE) (t : TSet) : TG := fun v σ H Q => to σ H fun o H1 => ti σ H1 fun i H2 => t o i v H2 fun H3 => Q σ H3
theorem pg_sub {o i : Expr} {to ti : TE} {t : TSet} (ho : PE X o to) (hi : PE X i ti) (hs : PSet X t)
    (ha : ∀ v, assign (.Subscript o i pos) X.env v = (do
      let ov ← holding [v] (eval o X.env)
      let iv ← holding [v, ov] (eval i X.env)
      standAt pos
      holding [v, ov, iv] (setItem ov iv v)
      release [v, ov, iv] []) := by intro _; rfl) : PG X (.Subscript o i pos) (gSub to ti t) := by
  intro pins s σ H v u Q I r h
  rw [ha]
  refine wpAny_bind (wpAny_holding (thn (ho pins s σ H _ I h) fun ov s1 ⟨x, H1, I1, r1, q1⟩ => ?_))
  refine wpAny_bind (wpAny_holding (thn (hi pins s1 σ H1 _ I1 q1) fun iv s2 ⟨y, H2, I2, r2, q2⟩ => ?_))
  refine wpAny_bind (wpAny_standAt (wpAny_bind (wpAny_holding (thn (hs pins s2 σ H2 x y v ov iv u _ I2 r1 r2 r q2) fun _ s3 ⟨H3, I3, q3⟩ => ?_))))
  exact wpAny_release ⟨σ, H3, I3, q3⟩

def tAsg (te : TE) (g : TG) : TS := fun D σ H => te σ H fun x H1 => g x σ H1 D.nx
theorem ps_asg {tg e : Expr} {te : TE} {g : TG} (he : PE X e te) (hg : PG X tg g) (hs : swapsWithSole [tg] e pos.line X.env = pure false := by rfl) (hw : swappedStores [tg] e X.env = pure none := by rfl)
    (h1 : (assignEach [tg] X.env).map (·.2) = [assign tg X.env] := by rfl) : PS X (.Assign [tg] e pos) (tAsg te g) := by
  refine ⟨?_⟩
  intro pins s σ H D I h
  refine wpAny_Assign_stores (thn (he pins s σ H _ I h) fun v s1 ⟨x, H1, I1, r1, q1⟩ => ?_) hs hw
  rw [h1]
  exact thn (hg pins s1 σ H1 x v _ I1 r1 q1) fun _ s2 q => q

theorem ps_set {i : Nat} {x : Str} {e : Expr} {te : TE} {pos' : Pos} (hN : X.N.Nodup) (hi : X.N[i]? = some x) (hx : Loc X.env.scope x) (he : PE X e te) (hs : swapsWith e (some (.Name x pos')) pos.line X.env = pure false := by rfl) (hf : X.fn x = true ∨ X.env.scope.names.lookup x = some .local := by first | exact .inl rfl | exact .inr rfl | assumption) :
    PS X (.Assign [.Name x pos'] e pos) (tAsg te (gName i)) := by
  refine ⟨?_⟩
  intro pins s σ H D I h
  refine wpAny_Assign_Name (thn (he pins s σ H _ I h) fun v s1 ⟨y, H1, I1, r1, q1⟩ => ?_) hs
  exact store_ok I1 hN hi hx r1 (fun s2 I2 => ⟨_, H1, I2, q1⟩) hf

end

section
variable {X : Cx} {pos : Pos}

def tWhile (c : TT) (tb : TS) : TS := fun D σ H => ∃ W : Nat → St → Hp → Prop, (∃ m, W m σ H) ∧ ∀ m σ H, W m σ H →
  c σ H fun b H1 => if b = true then ∃ N : St → Hp → Prop, (∀ σ' H', N σ' H' → ∃ m', m' < m ∧ W m' σ' H') ∧ tb { D with nx := N, ct := N, bk := D.nx } σ H1 else D.nx σ H1
theorem ps_while {c : Expr} {body : List Stmt} {tc : TT} {tb : TS} (hp : PassesOwn (model X.prog X.w) X.A X.env X.xe) (hc : PT X c tc) (hb : PSs X body tb) : PS X (.While c body [] pos) (tWhile tc tb) := by
  refine ⟨?_⟩
  intro pins s σ H D I h
  obtain ⟨W, ⟨m0, w0⟩, turn⟩ := h
  refine wpAny_While (codeAny_whileLoop (fun n s' => ∃ σ' H', Inv X pins σ' H' s' ∧ W n σ' H') ?_ m0 ⟨σ, H, I, w0⟩)
  rintro n s1 ⟨σ1, H1, I1, w1⟩
  refine wpAny_passesOwn hp (thn (hc pins s1 σ1 H1 _ I1 (turn n σ1 H1 w1)) fun b s2 ⟨H2, I2, q2⟩ => ?_)
  cases b with
  | true =>
    obtain ⟨N, hN, q2⟩ := q2
    rw [if_pos rfl]
    refine wpAny_passesOwn hp (thn (hb pins s2 σ1 H2 _ I2 q2) fun f s3 q3 => ?_)
    cases f with
    | next =>
      obtain ⟨σ3, H3, I3, n3⟩ := q3
      obtain ⟨m', hm, w3⟩ := hN σ3 H3 n3
      exact ⟨m', hm, σ3, H3, I3, w3⟩
    | cont =>
      obtain ⟨σ3, H3, I3, n3⟩ := q3
      obtain ⟨m', hm, w3⟩ := hN σ3 H3 n3
      exact ⟨m', hm, σ3, H3, I3, w3⟩
    | brk => exact q3
    | ret v => exact q3
  | false =>
    rw [if_neg Bool.false_ne_true]
    exact wpAny_execs_nil ⟨σ1, H2, I2, q2⟩
end

structure It where
  go : Nat → Hp → Prop
  yld : Nat → Hp → V → Hp → Prop
  stop : Nat → Hp → Prop

def FpOk (X : Cx) (pins : List (Addr × Obj)) (H : Hp) (b : Addr) : Prop :=
  H b = none ∧ b ≠ X.env.locals ∧ b ∉ X.fs ∧ (b ∈ X.ex ∨ X.s₀.heap.objs.size ≤ b) ∧ (∀ x c, X.env.cells.lookup x = some c → c ≠ b) ∧ ∀ p ∈ X.pn ++ pins, p.1 ≠ b
theorem Inv.fpOk {X : Cx} {pins : List (Addr × Obj)} {σ : St} {H H' : Hp} {s : Shared} {b : Addr} (I : Inv X pins σ H s) (hb : s.heap.objs.size ≤ b) (hn : H' b = none) : FpOk X pins H' b := by
  refine ⟨hn, Nat.ne_of_gt (Nat.lt_of_lt_of_le I.lt hb), I.nofs hb, .inr (Nat.le_trans I.sz hb), fun x c e z => ?_, fun p hp z => ?_⟩
  · obtain ⟨v, q⟩ := I.cell x c e
    exact absurd (Nat.lt_of_lt_of_le q.lt (by rw [z]; exact hb)) (Nat.lt_irrefl _)
  · exact absurd (Nat.lt_of_lt_of_le (Heap.lt_size (I.pin p hp).1) (by rw [z]; exact hb)) (Nat.lt_irrefl _)
structure Turn (P : Program) (w : World) (K : PySem.W.Frag) (tg : Expr) (J : It) (fp : List Addr) (it : Addr) (tn : Nat → Heap → Prop) : Prop where
  mem : it ∈ fp
  obj : ∀ i h, tn i h → ∀ b ∈ fp, ∃ o, h.get? b = some o ∧ ∀ v, o.data ≠ .cell v
  keep : ∀ i h h', tn i h → (∀ b ∈ fp, ∀ o, h.get? b = some o → h'.get? b = some o) → tn i h'
  item : ∀ (X : Cx), X.prog = P → X.w = w → X.K = K → X.calm = true → ∀ (i : Nat) (pins : List (Addr × Obj)) (s : Shared) (σ : St) (H : Hp) (E : Value → Shared → Prop), Inv X pins σ H s → (∀ b ∈ fp, FpOk X pins H b) → tn i s.heap → J.go i H →
    wpAny (model P w) X.A (pyNext (.ref it)) (fun r s1 => ∃ u, r = some u ∧
      wpAny (model P w) X.A (letOwnedTupleGo tg (.ref it) u) (fun _ s2 => ∃ x H', Inv X pins σ H' s2 ∧ RelV x u ∧ J.yld i H x H' ∧ tn (i + 1) s2.heap ∧ ∀ b ∈ fp, H' b = none) E s1) E s
  done : ∀ (X : Cx), X.prog = P → X.w = w → X.K = K → X.calm = true → ∀ (i : Nat) (pins : List (Addr × Obj)) (s : Shared) (σ : St) (H : Hp) (E : Value → Shared → Prop), Inv X pins σ H s → (∀ b ∈ fp, FpOk X pins H b) → tn i s.heap → J.stop i H →
    wpAny (model P w) X.A (pyNext (.ref it)) (fun r s1 => r = none ∧ Inv X pins σ H s1) E s
  self : ∀ (A : Around) (i : Nat) (s : Shared) (Q : Value → Shared → Prop) (E : Value → Shared → Prop), tn i s.heap → Q (.ref it) s → wpAny (model P w) A (pyIter (.ref it)) Q E s
abbrev TI := St → Hp → (It → Hp → Prop) → Prop

def PIE (X : Cx) (pins : List (Addr × Obj)) (σ : St) (tg : Expr) (R : It → Hp → Prop) (itv : Value) (s2 : Shared) : Prop :=
  ∃ (it : Addr) (fp : List Addr) (tn : Nat → Heap → Prop) (J : It) (H' : Hp), itv = .ref it ∧ Inv X pins σ H' s2 ∧ Turn X.prog X.w X.K tg J fp it tn ∧ tn 0 s2.heap ∧ (∀ b ∈ fp, FpOk X pins H' b) ∧ R J H'
def PI (X : Cx) (tg iter : Expr) (wi : TI) : Prop :=
  ∀ (pins : List (Addr × Obj)) (s : Shared) (σ : St) (H : Hp) (R : It → Hp → Prop), Inv X pins σ H s → wi σ H R →
    wpAny (model X.prog X.w) X.A (eval iter X.env) (fun v s1 => wpAny (model X.prog X.w) X.A (pyIter v) (PIE X pins σ tg R) X.xe s1) X.xe s

theorem go_of {M : Model} {A : Around} {E : Value → Shared → Prop} {s : Shared} {tg : Expr} {it : Addr} {u : Value} {o : Obj} {n : String} {vs : Array Value} {Q : Unit → Shared → Prop} (ho : s.heap.get? it = some o) (hc : o.cls = .type n) (hd : o.data = .fields vs)
    (hn : ["enumerate", "zip", "dict_itemiterator", "dict_reverseitemiterator", "odict_iterator", "itertools.zip_longest", "itertools.pairwise"].contains n = false) (hQ : Q () s) : wpAny M A (letOwnedTupleGo tg (.ref it) u) Q E s := by
  unfold letOwnedTupleGo
  cases tg <;> first
    | exact wpAny_pure hQ
    | (cases u <;> first
        | exact wpAny_pure hQ
        | (refine wpAny_bind (wpAny_load ho ?_)
           rw [hc, hd]
           show wpAny M A (if (["enumerate", "zip", "dict_itemiterator", "dict_reverseitemiterator", "odict_iterator", "itertools.zip_longest", "itertools.pairwise"].contains n && vs[0]? == some (rawInt _)) = true then _ else _) Q E s
           rw [if_neg (by intro h; rw [hn, Bool.false_and] at h; cases h)]
           exact wpAny_pure hQ))

def Itl (K : PySem.W.Frag) (a : Addr) : It :=
  ⟨fun i H => ∃ xs x, SqL K H a xs ∧ xs[i]? = some x, fun i H x H' => H' = H ∧ ∀ xs, SqL K H a xs → xs[i]? = some x, fun i H => ∃ xs, SqL K H a xs ∧ xs.length ≤ i⟩
def Itt (K : PySem.W.Frag) (a : Addr) : It :=
  ⟨fun i H => ∃ xs x, SqT K H a xs ∧ xs[i]? = some x, fun i H x H' => H' = H ∧ ∀ xs, SqT K H a xs → xs[i]? = some x, fun i H => ∃ xs, SqT K H a xs ∧ xs.length ≤ i⟩

def Itr (lo : Int) (n : Nat) : It := ⟨fun i _ => i < n, fun i H x H' => H' = H ∧ x = .int (lo + i), fun i _ => n ≤ i⟩
theorem turn_list {P : Program} {w : World} {K : PySem.W.Frag} {tg : Expr} (a it : Addr) : Turn P w K tg (Itl K a) [it] it (fun i h => h.IsListIter it a i) where
  mem := by simp
  obj := fun i h st b hb => by
    have e : b = it := by simpa using hb
    subst e
    obtain ⟨o, e, c, d⟩ := st
    exact ⟨o, e, fun v z => by rw [d] at z; cases z⟩
  keep := fun i h h' st k => st.at fun o e => k it (by simp) o e
  item := by
    intro X hP hw hK hc i pins s σ H E I hf st hg
    subst hP hw hK
    obtain ⟨xs, x, hq, hx⟩ := hg
    obtain ⟨its, rv, p, hz⟩ := I.list hq
    obtain ⟨u, hu, ru⟩ := rv.get hx
    obtain ⟨f0, f1, f2, f3, f4, f5⟩ := hf it (by simp)
    refine wpAny_pyNext_list_item st p.isList (x := u) (by simpa using hu) fun h' st' sb => ?_
    have I1 : Inv X pins σ H { s with heap := h' } := I.turned (t' := s.toks) (fun b o hb e => (sb.2 b hb).trans e) f0 f1 f3 f4 f5
    obtain ⟨o, e, c, d⟩ := id st'
    exact ⟨u, rfl, go_of (s := { s with heap := h' }) e c d (by decide) ⟨x, H, I1, ru, ⟨rfl, fun ys hy => by rw [I.list_inj hy hq]; exact hx⟩, st', fun b hb => (hf b hb).1⟩⟩
  done := by
    intro X hP hw hK hc i pins s σ H E I hf st hg
    subst hP hw hK
    obtain ⟨xs, hq, hx⟩ := hg
    obtain ⟨its, rv, p, hz⟩ := I.list hq
    obtain ⟨f0, f1, f2, f3, f4, f5⟩ := hf it (by simp)
    have hl := rv.length
    exact wpAny_pyNext_list_end (I.ok.hd hc) st p.isList (by simp; omega) fun h' eb => ⟨rfl, I.turned (t' := s.toks) (fun b o hb e => eb b o hb e) f0 f1 f3 f4 f5⟩
  self := fun _ _ _ _ _ st h => wpAny_pyIter_listiter st h
theorem turn_tuple {P : Program} {w : World} {K : PySem.W.Frag} {tg : Expr} (a it : Addr) : Turn P w K tg (Itt K a) [it] it (fun i h => h.IsTupleIter it a i) where
  mem := by simp
  obj := fun i h st b hb => by
    have e : b = it := by simpa using hb
    subst e
    obtain ⟨o, e, c, d⟩ := st
    exact ⟨o, e, fun v z => by rw [d] at z; cases z⟩
  keep := fun i h h' st k => st.at fun o e => k it (by simp) o e
  item := by
    intro X hP hw hK hc i pins s σ H E I hf st hg
    subst hP hw hK
    obtain ⟨xs, x, hq, hx⟩ := hg
    obtain ⟨its, rv, p, hz⟩ := I.tuple hq
    obtain ⟨u, hu, ru⟩ := rv.get hx
    obtain ⟨f0, f1, f2, f3, f4, f5⟩ := hf it (by simp)
    refine wpAny_pyNext_tuple_item st (show s.heap.IsTuple a its.toArray from p) (x := u) (by simpa using hu) fun h' st' sb => ?_
    have I1 : Inv X pins σ H { s with heap := h' } := I.turned (t' := s.toks) (fun b o hb e => (sb.2 b hb).trans e) f0 f1 f3 f4 f5
    obtain ⟨o, e, c, d⟩ := id st'
    exact ⟨u, rfl, go_of (s := { s with heap := h' }) e c d (by decide) ⟨x, H, I1, ru, ⟨rfl, fun ys hy => by rw [I.tuple_inj hy hq]; exact hx⟩, st', fun b hb => (hf b hb).1⟩⟩
  done := by
    intro X hP hw hK hc i pins s σ H E I hf st hg
    subst hP hw hK
    obtain ⟨xs, hq, hx⟩ := hg
    obtain ⟨its, rv, p, hz⟩ := I.tuple hq
    obtain ⟨f0, f1, f2, f3, f4, f5⟩ := hf it (by simp)
    have hl := rv.length
    exact wpAny_pyNext_tuple_end (I.ok.hd hc) st (show s.heap.IsTuple a its.toArray from p) (by simp; omega) fun h' eb => ⟨rfl, I.turned (t' := s.toks) (fun b o hb e => eb b o hb e) f0 f1 f3 f4 f5⟩
  self := fun _ _ _ _ _ st h => wpAny_pyIter_tupleiter st h
theorem turn_range {P : Program} {w : World} {K : PySem.W.Frag} {tg : Expr} (it : Addr) (lo : Int) (n : Nat) : Turn P w K tg (Itr lo n) [it] it (fun i h => IsRangeIter h it (lo + (i : Nat) * 1) ((n : Int) - (i : Nat)) 1) where
  mem := by simp
  obj := fun i h st b hb => by
    have e : b = it := by simpa using hb
    subst e
    exact ⟨_, st, fun v z => by
      have z' : Data.fields _ = Data.cell v := z
      cases z'⟩
  keep := fun i h h' st k => k it (by simp) _ st
  item := by
    intro X hP hw hK hc i pins s σ H E I hf st hg
    subst hP hw hK
    obtain ⟨f0, f1, f2, f3, f4, f5⟩ := hf it (by simp)
    have W := Walks.range (prog := X.prog) (w := X.w) (I.ok.hd hc) it lo 1 n
    refine W.item i s _ _ hg st fun v h' tk hv st' kk => ?_
    obtain ⟨t, rfl⟩ := hv
    have I1 : Inv X pins σ H { s with heap := h', toks := tk } := I.turned (fun b o hb e => kk b o (by simpa using hb) e) f0 f1 f3 f4 f5
    refine ⟨_, rfl, go_of (s := { s with heap := h', toks := tk }) (n := "range_iterator") st' rfl rfl (by decide) ⟨.int (lo + i), H, I1, ⟨t, ?_⟩, ⟨rfl, rfl⟩, st', fun b hb => (hf b hb).1⟩⟩
    rw [Int.mul_one]
  done := by
    intro X hP hw hK hc i pins s σ H E I hf st hg
    subst hP hw hK
    obtain ⟨f0, f1, f2, f3, f4, f5⟩ := hf it (by simp)
    exact wpAny_pyNext_range_end (I.ok.hd hc) st (by have : n ≤ i := hg; omega) fun h' eb => ⟨rfl, I.turned (t' := s.toks) (fun b o hb e => eb b o hb e) f0 f1 f3 f4 f5⟩
  self := fun _ _ _ _ _ st h => wpAny_pyIter_rangeiter st h
end L2

namespace L2
open PySem PySem.Spec PyProof.Rows
section
variable {X : Cx} {tg : Expr}
def iList (K : PySem.W.Frag) (tl : TE) : TI := fun σ H R => tl σ H fun x H1 => ∃ a, x = .ref a ∧ (∃ xs, SqL K H1 a xs) ∧ R (Itl K a) H1
def iTup (K : PySem.W.Frag) (tl : TE) : TI := fun σ H R => tl σ H fun x H1 => ∃ a, x = .ref a ∧ (∃ xs, SqT K H1 a xs) ∧ R (Itt K a) H1
theorem pi_list {l : Expr} {tl : TE} (hl : PE X l tl) : PI X tg l (iList X.K tl) := by
  intro pins s σ H R I h
  refine thn (hl pins s σ H _ I h) fun v s1 ⟨x, H1, I1, r1, q1⟩ => ?_
  obtain ⟨a, e, ⟨xs, hq⟩, q⟩ := q1
  subst e
  cases r1
  obtain ⟨its, rv, p, hz⟩ := I1.list hq
  refine wpAny_pyIter_list p.isList ?_
  refine ⟨s1.heap.objs.size, [s1.heap.objs.size], _, _, H1, rfl, I1.kept (t' := s1.toks) fun b o e => Heap.get?_push_of_some _ e, turn_list a _, ⟨_, Heap.get?_push_size _ rfl, rfl, rfl⟩, fun b hb => ?_, q⟩
  have e : b = s1.heap.objs.size := by simpa using hb
  subst e
  exact I1.fpOk (Nat.le_refl _) (I1.hok.fresh (Nat.le_refl _))
theorem pi_tup {l : Expr} {tl : TE} (hl : PE X l tl) : PI X tg l (iTup X.K tl) := by
  intro pins s σ H R I h
  refine thn (hl pins s σ H _ I h) fun v s1 ⟨x, H1, I1, r1, q1⟩ => ?_
  obtain ⟨a, e, ⟨xs, hq⟩, q⟩ := q1
  subst e
  cases r1
  obtain ⟨its, rv, p, hz⟩ := I1.tuple hq
  refine wpAny_pyIter_tuple (show s1.heap.IsTuple a its.toArray from p) ?_
  refine ⟨s1.heap.objs.size, [s1.heap.objs.size], _, _, H1, rfl, I1.kept (t' := s1.toks) fun b o e => Heap.get?_push_of_some _ e, turn_tuple a _, ⟨_, Heap.get?_push_size _ rfl, rfl, rfl⟩, fun b hb => ?_, q⟩
  have e : b = s1.heap.objs.size := by simpa using hb
  subst e
  exact I1.fpOk (Nat.le_refl _) (I1.hok.fresh (Nat.le_refl _))

theorem range_it {pins : List (Addr × Obj)} {σ : St} {H : Hp} {s : Shared} {R : It → Hp → Prop} {E : Value → Shared → Prop} {lo hi : Int} {t u v : Tok} {tk : Nat} (I : Inv X pins σ H s) (h1 : -(2 ^ 62) ≤ lo) (h2 : lo < 2 ^ 62) (h3 : -(2 ^ 62) ≤ hi) (h4 : hi < 2 ^ 62)
    (q : R (Itr lo (hi - lo).toNat) H) : wpAny (model X.prog X.w) X.A (pyIter (.ref s.heap.objs.size)) (PIE X pins σ tg R) E { s with heap := s.heap.push { cls := .type "range", data := .fields #[.int lo t, .int hi u, .int 1 v] }, toks := tk } := by
  refine wpAny_pyIter_range (IsRange.new ..) (small_one h1 h2 h3 h4) ?_
  have I1 : Inv X pins σ H { s with heap := s.heap.push { cls := .type "range", data := .fields #[.int lo t, .int hi u, .int 1 v] }, toks := tk } := I.kept fun b o e => Heap.get?_push_of_some _ e
  refine ⟨(s.heap.push { cls := .type "range", data := .fields #[.int lo t, .int hi u, .int 1 v] }).objs.size, [(s.heap.push { cls := .type "range", data := .fields #[.int lo t, .int hi u, .int 1 v] }).objs.size], _, _, H, rfl,
    I1.kept (t' := tk) fun b o e => Heap.get?_push_of_some _ e, turn_range _ lo (hi - lo).toNat, ?_, fun b hb => ?_, q⟩
  · have e1 : lo + ((0 : Nat) : Int) * 1 = lo := by simp
    have e2 : (((hi - lo).toNat : Nat) : Int) - ((0 : Nat) : Int) = Builtin.Range.rangeSize lo hi 1 := by rw [rangeSize_one]; split <;> omega
    show IsRangeIter _ _ (lo + ((0 : Nat) : Int) * 1) ((((hi - lo).toNat : Nat) : Int) - ((0 : Nat) : Int)) 1
    rw [e1, e2]
    exact Heap.get?_push_size _ rfl
  · have e : b = (s.heap.push { cls := .type "range", data := .fields #[.int lo t, .int hi u, .int 1 v] }).objs.size := by simpa using hb
    subst e
    exact I1.fpOk (Nat.le_refl _) (I1.hok.fresh (Nat.le_refl _))
def iRng1 (ta : TA) : TI := fun σ H R => ta σ H fun vs H1 => ∃ j : Int, vs = [.int j] ∧ -(2 ^ 62) ≤ j ∧ j < 2 ^ 62 ∧ R (Itr 0 j.toNat) H1
theorem pi_range1 {a : Expr} {ta : TA} {p pos : Pos} (hg : Gl X "range") (hm : X.mg "range" = none) (ha : PA X [a] ta) (hs : starEach [a] X.env = [(false, eval a X.env)] := by rfl) : PI X tg (.Call (.Name "range" p) [a] [] pos) (iRng1 ta) := by
  intro pins s σ H R I h
  refine Call_ (ld_blt I hg hm boot_range (PyProof.Rows.callWith_type1 (thn (ha pos pins s σ H _ I h) fun us s1 ⟨vs, H1, I1, r1, q1⟩ => ?_) hs rfl))
  obtain ⟨j, e, q1, q2, q⟩ := q1
  subst e
  cases r1 with
  | cons r rr =>
    cases rr
    obtain ⟨t, rfl⟩ := r
    exact call_range_1 (range_it I1 (by omega) (by omega) q1 q2 (by simpa using q))
def tFor (wi : TI) (g : TG) (tb : TS) : TS := fun D σ H => wi σ H fun J H1 => ∃ W : Nat → Nat → St → Hp → Prop, (∃ m, W 0 m σ H1) ∧ ∀ i m σ H, W i m σ H →
  (J.stop i H ∧ D.nx σ H) ∨ (J.go i H ∧ ∃ N : St → Hp → Prop, (∀ σ' H', N σ' H' → ∃ m', m' < m ∧ W (i + 1) m' σ' H') ∧ ∀ x H', J.yld i H x H' → g x σ H' fun σ2 H2 => tb { D with nx := N, ct := N, bk := D.nx } σ2 H2)

def pinsAt (fp : List Addr) (h : Heap) : List (Addr × Obj) := fp.filterMap fun b => (h.get? b).map fun o => (b, o)
theorem mem_pinsAt {fp : List Addr} {h : Heap} {b : Addr} {o : Obj} (hb : b ∈ fp) (e : h.get? b = some o) : (b, o) ∈ pinsAt fp h := List.mem_filterMap.mpr ⟨b, hb, by rw [e]; rfl⟩
theorem of_pinsAt {fp : List Addr} {h : Heap} {p : Addr × Obj} (hp : p ∈ pinsAt fp h) : p.1 ∈ fp ∧ h.get? p.1 = some p.2 := by
  obtain ⟨b, hb, e⟩ := List.mem_filterMap.mp hp
  cases q : h.get? b with
  | none => rw [q] at e; cases e
  | some o =>
    rw [q] at e
    have e' : (b, o) = p := Option.some.inj e
    subst e'
    exact ⟨hb, q⟩
theorem Inv.pinned {pins : List (Addr × Obj)} {σ : St} {H : Hp} {s : Shared} {fp : List Addr} (I : Inv X pins σ H s) (hf : ∀ b ∈ fp, FpOk X pins H b) (ho : ∀ b ∈ fp, ∃ o, s.heap.get? b = some o ∧ ∀ v, o.data ≠ .cell v) : Inv X (pins ++ pinsAt fp s.heap) σ H s :=
  I.pins_of fun p hp => (List.mem_append.mp hp).elim (fun z => I.pin p (List.mem_append_right _ z)) fun z => by
    obtain ⟨hb, e⟩ := of_pinsAt z
    obtain ⟨f0, f1, f2, _⟩ := hf p.1 hb
    obtain ⟨o, e', d⟩ := ho p.1 hb
    rw [e] at e'; cases e'
    exact ⟨e, f0, f1, f2, d⟩
theorem Inv.unpinned {pins pl : List (Addr × Obj)} {σ : St} {H : Hp} {s : Shared} (I : Inv X (pins ++ pl) σ H s) : Inv X pins σ H s := I.pins_of fun p hp => I.pin p (List.mem_append_right _ (List.mem_append_left _ hp))
theorem ps_for {iter : Expr} {body : List Stmt} {wi : TI} {g : TG} {tb : TS} {pos : Pos} (hp : PassesOwn (model X.prog X.w) X.A X.env X.xe) (hc : X.calm = true) (hi : PI X tg iter wi) (hg : PG X tg g) (hb : PSs X body tb)
    (hs : ∀ x, foldedSetIterable iter X.env x = pure x := by intro _; rfl) : PS X (.For tg iter body [] pos) (tFor wi g tb) := by
  refine ⟨?_⟩
  intro pins s σ H D I h
  refine wpAny_For (thn (hi pins s σ H _ I h) fun v s1 h1 => thn h1 fun itv s2 h2 => ?_) hs
  obtain ⟨it, fp, tn, J, H2, e, I2, T, st2, f2, W, ⟨m0, w0⟩, turn⟩ := h2
  subst e
  have stat : ∀ {H' : Hp}, (∀ b ∈ fp, H' b = none) → ∀ b ∈ fp, FpOk X pins H' b := fun hn b hb => ⟨hn b hb, (f2 b hb).2⟩
  refine codeAny_forLoop_any (fun n s' => ∃ i σ' H', Inv X pins σ' H' s' ∧ tn i s'.heap ∧ (∀ b ∈ fp, H' b = none) ∧ W i n σ' H') ?_ m0 ⟨0, σ, H2, I2, st2, fun b hb => (f2 b hb).1, w0⟩
  rintro n s3 ⟨i, σ3, H3, I3, st3, fr3, w3⟩
  rcases turn i n σ3 H3 w3 with ⟨stop, qn⟩ | ⟨go, N, hN, step⟩
  · refine wpAny_passesOwn hp (thn (T.done X rfl rfl rfl hc i pins s3 σ3 H3 X.xe I3 (stat fr3) st3 stop) fun r s4 ⟨hr, I4⟩ => ?_)
    subst hr
    exact wpAny_execs_nil ⟨σ3, H3, I4, qn⟩
  · refine wpAny_passesOwn hp (thn (T.item X rfl rfl rfl hc i pins s3 σ3 H3 X.xe I3 (stat fr3) st3 go) fun r s4 ⟨u, hr, h4⟩ => ?_)
    subst hr
    refine wpAny_passesOwn hp (thn h4 fun _ s5 ⟨x, H5, I5, r5, y5, st5, fr5⟩ => ?_)
    have I5' := I5.pinned (stat fr5) (T.obj _ _ st5)
    refine wpAny_passesOwn hp (thn (hg _ s5 σ3 H5 x u _ I5' r5 (step x H5 y5)) fun _ s6 ⟨σ6, H6, I6, q6⟩ => ?_)
    refine wpAny_passesOwn hp (thn (hb _ s6 σ6 H6 _ I6 q6) fun f s7 q7 => ?_)
    have again : ∀ {σ7 : St} {H7 : Hp}, Inv X (pins ++ pinsAt fp s5.heap) σ7 H7 s7 → N σ7 H7 → ∃ m, m < n ∧ ∃ i σ' H', Inv X pins σ' H' s7 ∧ tn i s7.heap ∧ (∀ b ∈ fp, H' b = none) ∧ W i m σ' H' := fun {σ7 H7} I7 n7 => by
      obtain ⟨m', hm, w7⟩ := hN σ7 H7 n7
      refine ⟨m', hm, i + 1, σ7, H7, I7.unpinned, T.keep _ _ _ st5 fun b hb o e => (I7.pin (b, o) (List.mem_append_right _ (List.mem_append_right _ (mem_pinsAt hb e)))).1, fun b hb => ?_, w7⟩
      obtain ⟨o, e, d⟩ := T.obj _ _ st5 b hb
      exact (I7.pin (b, o) (List.mem_append_right _ (List.mem_append_right _ (mem_pinsAt hb e)))).2.1
    cases f with
    | next => obtain ⟨σ7, H7, I7, n7⟩ := q7; exact again I7 n7
    | cont => obtain ⟨σ7, H7, I7, n7⟩ := q7; exact again I7 n7
    | brk => obtain ⟨σ7, H7, I7, q7⟩ := q7; exact ⟨σ7, H7, I7.unpinned, q7⟩
    | ret v => obtain ⟨x7, σ7, H7, I7, r7, q7⟩ := q7; exact ⟨x7, σ7, H7, I7.unpinned, r7, q7⟩
end

theorem while_by {c : TT} {tb : TS} {D : Ends} {σ : St} {H : Hp} (Pv : St → Hp → Prop) (μ : St → Hp → Nat) (h0 : Pv σ H)
    (hs : ∀ σ H, Pv σ H → c σ H fun b H1 => if b = true then tb { D with nx := fun σ' H' => Pv σ' H' ∧ μ σ' H' < μ σ H, ct := fun σ' H' => Pv σ' H' ∧ μ σ' H' < μ σ H, bk := D.nx } σ H1 else D.nx σ H1)
    (mono : ∀ σ H Q Q', (∀ b H1, Q b H1 → Q' b H1) → c σ H Q → c σ H Q') : tWhile c tb D σ H := by
  refine ⟨fun m σ H => m = μ σ H ∧ Pv σ H, ⟨_, rfl, h0⟩, ?_⟩
  rintro m σ H ⟨rfl, p⟩
  refine mono σ H _ _ (fun b H1 q => ?_) (hs σ H p)
  cases b with
  | true => exact ⟨_, fun σ' H' ⟨p', l⟩ => ⟨_, l, rfl, p'⟩, q⟩
  | false => exact q
end L2

namespace L2
open PySem PySem.Spec PyProof.Rows

abbrev R2 := V → V → Hp → VK → Prop

def OpR (X : Cx) (f : Value → Value → Sem Value) (r : R2) : Prop :=
  ∀ (pins : List (Addr × Obj)) (s : Shared) (σ : St) (H : Hp) (x y : V) (v u : Value) (Q : VK), Inv X pins σ H s → RelV x v → RelV y u → r x y H Q →
    wpAny (model X.prog X.w) X.A (f v u) (EP X pins σ Q) X.xe s

def CallR (X : Cx) (f : Value) (r : List V → Hp → VK → Prop) : Prop :=
  ∀ (pins : List (Addr × Obj)) (s : Shared) (σ : St) (H : Hp) (xs : List V) (us : List Value) (Q : VK), Inv X pins σ H s → Vals xs us → r xs H Q →
    wpAny (model X.prog X.w) X.A (call f us) (EP X pins σ Q) X.xe s

def tOp (r : R2) (ta tb : TE) : TE := fun σ H Q => ta σ H fun x H1 => tb σ H1 fun y H2 => r x y H2 Q
def rI (C : Int → Int → Prop) (g : Int → Int → V) : R2 := fun x y H Q => ∃ i j, x = .int i ∧ y = .int j ∧ C i j ∧ Q (g i j) H
def rI0 (g : Int → Int → V) : R2 := fun x y H Q => ∃ i j, x = .int i ∧ y = .int j ∧ Q (g i j) H
section
variable {X : Cx} {a b c : Expr} {ta tb tc : TE} {pos : Pos}

theorem binT (ha : PE X a ta) (hb : PE X b tb) {pins : List (Addr × Obj)} {s : Shared} {σ : St} {H : Hp} {R : V → V → Hp → Prop} (I : Inv X pins σ H s)
    (h : ta σ H fun x H1 => tb σ H1 fun y H2 => R x y H2) {Q : Value → Shared → Prop} {f : Value → Value → Sem Value}
    (hf : ∀ v u s2 x y H2, Inv X pins σ H2 s2 → RelV x v → RelV y u → R x y H2 → wpAny (model X.prog X.w) X.A (f v u) Q X.xe s2) :
    wpAny (model X.prog X.w) X.A (eval a X.env) (fun v s₁ => wpAny (model X.prog X.w) X.A (eval b X.env) (fun u s₂ => wpAny (model X.prog X.w) X.A (f v u) Q X.xe s₂) X.xe s₁) X.xe s := by
  refine thn (ha pins s σ H _ I h) fun v s1 ⟨x, H1, I1, r1, q1⟩ => ?_
  refine thn (hb pins s1 σ H1 _ I1 q1) fun u s2 ⟨y, H2, I2, r2, q2⟩ => ?_
  exact hf v u s2 x y H2 I2 r1 r2 q2

theorem pe_op {op : Operator} {r : R2} (ho : OpR X (binaryOp op) r) (ha : PE X a ta) (hb : PE X b tb) : PE X (.BinOp a op b pos) (tOp r ta tb) := by
  refine ⟨?_⟩
  intro pins s σ H Q I h
  exact wpAny_BinOp (binT ha hb I h fun v u s2 x y H2 I2 rx ry q => ho pins s2 σ H2 x y v u Q I2 rx ry q)
theorem opI {f : Value → Value → Sem Value} {C : Int → Int → Prop} {g : Int → Int → Int}
    (rule : ∀ (i j : Int) (t u : Tok) (s : Shared) (Q : Value → Shared → Prop) (E : Value → Shared → Prop), C i j → Q (.int (g i j) s.toks) { s with toks := s.toks + 1 } → wpAny (model X.prog X.w) X.A (f (.int i t) (.int j u)) Q E s) :
    OpR X f (rI C fun i j => .int (g i j)) := by
  intro pins s σ H x y v u Q I rx ry h
  obtain ⟨i, j, rfl, rfl, hc, q⟩ := h
  obtain ⟨t, rfl⟩ := rx
  obtain ⟨t', rfl⟩ := ry
  exact rule i j t t' s _ _ hc ⟨.int (g i j), H, I.tok _, ⟨_, rfl⟩, q⟩
theorem opI0 {f : Value → Value → Sem Value} {g : Int → Int → Int}
    (rule : ∀ (i j : Int) (t u : Tok) (s : Shared) (Q : Value → Shared → Prop) (E : Value → Shared → Prop), Q (.int (g i j) s.toks) { s with toks := s.toks + 1 } → wpAny (model X.prog X.w) X.A (f (.int i t) (.int j u)) Q E s) :
    OpR X f (rI0 fun i j => .int (g i j)) := by
  intro pins s σ H x y v u Q I rx ry h
  obtain ⟨i, j, rfl, rfl, q⟩ := h
  obtain ⟨t, rfl⟩ := rx
  obtain ⟨t', rfl⟩ := ry
  exact rule i j t t' s _ _ ⟨.int (g i j), H, I.tok _, ⟨_, rfl⟩, q⟩
theorem opB0 {f : Value → Value → Sem Value} {g : Int → Int → Bool}
    (rule : ∀ (i j : Int) (t u : Tok) (s : Shared) (Q : Value → Shared → Prop) (E : Value → Shared → Prop), Q (.bool (g i j)) s → wpAny (model X.prog X.w) X.A (f (.int i t) (.int j u)) Q E s) :
    OpR X f (rI0 fun i j => .bl (g i j)) := by
  intro pins s σ H x y v u Q I rx ry h
  obtain ⟨i, j, rfl, rfl, q⟩ := h
  obtain ⟨t, rfl⟩ := rx
  obtain ⟨t', rfl⟩ := ry
  exact rule i j t t' s _ _ ⟨.bl (g i j), H, I, rfl, q⟩

def CDiv (i j : Int) : Prop := 0 < j ∧ j < 1073741824
def CPow (i j : Int) : Prop := 0 ≤ j ∧ j ≤ 1000000 ∧ i.natAbs < 2 ^ 64
def CMul (i j : Int) : Prop := (-(2 ^ 64) < i ∧ i < 2 ^ 64) ∨ (-(2 ^ 64) < j ∧ j < 2 ^ 64)
theorem CMul.ok {i j : Int} (h : CMul i j) : IntMulOk i j := by
  rcases h with ⟨h1, h2⟩ | ⟨h1, h2⟩
  · exact .of_left (intBits_le_64 h1 h2)
  · exact .of_right (intBits_le_64 h1 h2)
theorem op_add : OpR X (binaryOp .Add) (rI0 fun i j => .int (i + j)) := opI0 fun _ _ _ _ _ _ _ q => add_int q
theorem op_sub : OpR X (binaryOp .Sub) (rI0 fun i j => .int (i - j)) := opI0 fun _ _ _ _ _ _ _ q => sub_int q
theorem op_mul : OpR X (binaryOp .Mult) (rI CMul fun i j => .int (i * j)) := opI fun _ _ _ _ _ _ _ hc q => mul_int q hc.ok

theorem op_fdiv : OpR X (binaryOp .FloorDiv) (rI CDiv fun i j => .int (i / j)) := opI fun i j _ _ _ _ _ hc q => by
  have h1 : (0 : Int) < j := hc.1
  have h2 : j < 1073741824 := hc.2
  exact floordiv_int (by omega) (by rw [Int.fdiv_eq_ediv_of_nonneg i (by omega)]; exact q) (.inl (PyProof.noPylong_small (by omega)))
theorem op_mod : OpR X (binaryOp .Mod) (rI (fun _ j => 0 < j) fun i j => .int (i % j)) := opI fun i j _ _ _ _ _ hc q => by
  have h1 : (0 : Int) < j := hc
  exact mod_int' (by omega) (by rw [Int.fmod_eq_emod_of_nonneg i (by omega)]; exact q)
theorem op_pow : OpR X (binaryOp .Pow) (rI CPow fun i j => .int (i ^ j.toNat)) := opI fun _ _ _ _ _ _ _ hc q => pow_int_small hc.1 hc.2.1 hc.2.2 q
end

def scal : V → V → Bool
  | .non, .non => true | .non, .int _ => true | .int _, .non => true | .non, .bl _ => true | .bl _, .non => true | .non, .str _ => true | .str _, .non => true
  | .int _, .int _ => true | .bl _, .bl _ => true | .str _, .str _ => true | .byt _, .byt _ => true
  | .int _, .str _ => true | .str _, .int _ => true | .bl _, .str _ => true | .str _, .bl _ => true
  | _, _ => false
def rEq : R2 := fun x y H Q => scal x y = true ∧ Q (.bl (decide (x = y))) H
def rNe : R2 := fun x y H Q => scal x y = true ∧ Q (.bl (!decide (x = y))) H

theorem dec_int {i j : Int} : decide (V.int i = V.int j) = (i == j) := by
  rw [Bool.eq_iff_iff]
  simp
theorem dec_bl {i j : Bool} : decide (V.bl i = V.bl j) = (i == j) := by
  rw [Bool.eq_iff_iff]
  simp
theorem dec_str {i j : Str} : decide (V.str i = V.str j) = (i == j) := by
  rw [Bool.eq_iff_iff]
  simp
theorem dec_byt {i j : Array UInt8} : decide (V.byt i = V.byt j) = (i.toList == j.toList) := by
  rw [Bool.eq_iff_iff]
  cases i
  cases j
  simp

section
variable {X : Cx} {a b c : Expr} {ta tb tc : TE} {pos : Pos}
theorem fin_bl {pins : List (Addr × Obj)} {σ : St} {H : Hp} {s : Shared} {Q : VK} {k k' : Bool} (I : Inv X pins σ H s) (q : Q (.bl k) H) (e : k = k') : EP X pins σ Q (.bool k') s := by
  subst e
  exact ⟨.bl k, H, I, rfl, q⟩
theorem op_eq : OpR X (compareOp .Eq) rEq := by
  intro pins s σ H x y v u Q I rx ry h
  obtain ⟨hs, q⟩ := h
  cases x with
  | non =>
    cases rx
    cases y with
    | non => cases ry; exact PySem.EqNone.eq_none_none (fin_bl I q (by simp))
    | bl j => cases ry; exact PySem.EqNone.eq_none_bool (fin_bl I q (by simp))
    | int j => obtain ⟨t', rfl⟩ := ry; exact PySem.EqNone.eq_none_int (fin_bl I q (by simp))
    | str j => obtain ⟨t', rfl⟩ := ry; exact PySem.EqNone.eq_none_str (fin_bl I q (by simp))
    | _ => exact absurd (show false = true from hs) Bool.false_ne_true
  | bl i =>
    cases rx
    cases y with
    | non => cases ry; exact PySem.EqNone.eq_bool_none (fin_bl I q (by simp))
    | bl j => cases ry; exact eq_bool (fin_bl I q dec_bl)
    | str j => obtain ⟨t', rfl⟩ := ry; exact PySem.EqMixed.eq_bool_str (fin_bl I q (by simp))
    | _ => exact absurd (show false = true from hs) Bool.false_ne_true
  | int i =>
    obtain ⟨t, rfl⟩ := rx
    cases y with
    | non => cases ry; exact PySem.EqNone.eq_int_none (fin_bl I q (by simp))
    | int j => obtain ⟨t', rfl⟩ := ry; exact eq_int (fin_bl I q dec_int)
    | str j => obtain ⟨t', rfl⟩ := ry; exact PySem.EqMixed.eq_int_str (fin_bl I q (by simp))
    | _ => exact absurd (show false = true from hs) Bool.false_ne_true
  | str i =>
    obtain ⟨t, rfl⟩ := rx
    cases y with
    | non => cases ry; exact PySem.EqNone.eq_str_none (fin_bl I q (by simp))
    | bl j => cases ry; exact PySem.EqMixed.eq_str_bool (fin_bl I q (by simp))
    | int j => obtain ⟨t', rfl⟩ := ry; exact PySem.EqMixed.eq_str_int (fin_bl I q (by simp))
    | str j => obtain ⟨t', rfl⟩ := ry; exact eq_str (fin_bl I q dec_str)
    | _ => exact absurd (show false = true from hs) Bool.false_ne_true
  | byt i =>
    obtain ⟨t, rfl⟩ := rx
    cases y with
    | byt j => obtain ⟨t', rfl⟩ := ry; exact PySem.W.eq_bytes (fin_bl I q dec_byt)
    | _ => exact absurd (show false = true from hs) Bool.false_ne_true
  | _ => cases y <;> exact absurd (show false = true from hs) Bool.false_ne_true
theorem op_ne : OpR X (compareOp .NotEq) rNe := by
  intro pins s σ H x y v u Q I rx ry h
  obtain ⟨hs, q⟩ := h
  cases x with
  | non =>
    cases rx
    cases y with
    | non => cases ry; exact PySem.EqNone.ne_none_none (fin_bl I q (by simp))
    | bl j => cases ry; exact PySem.EqNone.ne_none_bool (fin_bl I q (by simp))
    | int j => obtain ⟨t', rfl⟩ := ry; exact PySem.EqNone.ne_none_int (fin_bl I q (by simp))
    | str j => obtain ⟨t', rfl⟩ := ry; exact PySem.EqNone.ne_none_str (fin_bl I q (by simp))
    | _ => exact absurd (show false = true from hs) Bool.false_ne_true
  | bl i =>
    cases rx
    cases y with
    | non => cases ry; exact PySem.EqNone.ne_bool_none (fin_bl I q (by simp))
    | bl j => cases ry; exact ne_bool (fin_bl I q (congrArg not dec_bl))
    | str j => obtain ⟨t', rfl⟩ := ry; exact PySem.EqMixed.ne_bool_str (fin_bl I q (by simp))
    | _ => exact absurd (show false = true from hs) Bool.false_ne_true
  | int i =>
    obtain ⟨t, rfl⟩ := rx
    cases y with
    | non => cases ry; exact PySem.EqNone.ne_int_none (fin_bl I q (by simp))
    | int j => obtain ⟨t', rfl⟩ := ry; exact ne_int (fin_bl I q (congrArg not dec_int))
    | str j => obtain ⟨t', rfl⟩ := ry; exact PySem.EqMixed.ne_int_str (fin_bl I q (by simp))
    | _ => exact absurd (show false = true from hs) Bool.false_ne_true
  | str i =>
    obtain ⟨t, rfl⟩ := rx
    cases y with
    | non => cases ry; exact PySem.EqNone.ne_str_none (fin_bl I q (by simp))
    | bl j => cases ry; exact PySem.EqMixed.ne_str_bool (fin_bl I q (by simp))
    | int j => obtain ⟨t', rfl⟩ := ry; exact PySem.EqMixed.ne_str_int (fin_bl I q (by simp))
    | str j => obtain ⟨t', rfl⟩ := ry; exact ne_str (fin_bl I q (congrArg not dec_str))
    | _ => exact absurd (show false = true from hs) Bool.false_ne_true
  | byt i =>
    obtain ⟨t, rfl⟩ := rx
    cases y with
    | byt j => obtain ⟨t', rfl⟩ := ry; exact PySem.W.ne_bytes (fin_bl I q (congrArg not dec_byt))
    | _ => exact absurd (show false = true from hs) Bool.false_ne_true
  | _ => cases y <;> exact absurd (show false = true from hs) Bool.false_ne_true

theorem op_lt : OpR X (compareOp .Lt) (rI0 fun i j => .bl (decide (i < j))) := opB0 fun _ _ _ _ _ _ _ q => lt_int q
theorem op_le : OpR X (compareOp .LtE) (rI0 fun i j => .bl (decide (i ≤ j))) := opB0 fun _ _ _ _ _ _ _ q => le_int q
theorem op_gt : OpR X (compareOp .Gt) (rI0 fun i j => .bl (decide (j < i))) := opB0 fun _ _ _ _ _ _ _ q => gt_int q
theorem op_in_str : OpR X (compareOp .In) (fun x y H Q => ∃ i j, x = .str i ∧ y = .str j ∧ Q (.bl (!(Builtin.Str.occurrences j i 0 j.length 1).isEmpty)) H) := by
  intro pins s σ H x y v u Q I rx ry h
  obtain ⟨i, j, rfl, rfl, q⟩ := h
  obtain ⟨t, rfl⟩ := rx
  obtain ⟨t', rfl⟩ := ry
  exact in_str (fin_bl I q rfl)

theorem OpR.or {f : Value → Value → Sem Value} {r r' : R2} (h : OpR X f r) (h' : OpR X f r') : OpR X f (fun x y H Q => r x y H Q ∨ r' x y H Q) := by
  intro pins s σ H x y v u Q I rx ry q
  rcases q with q | q
  · exact h pins s σ H x y v u Q I rx ry q
  · exact h' pins s σ H x y v u Q I rx ry q

theorem nomark (b : Expr) {op : CmpOp} (h : op ≠ .In := by decide) (h2 : op ≠ .NotIn := by decide) : behindInMarks op b = false := by
  have e1 : (op == CmpOp.In) = false := by cases op <;> first | rfl | exact absurd rfl h
  have e2 : (op == CmpOp.NotIn) = false := by cases op <;> first | rfl | exact absurd rfl h2
  cases b <;> simp [behindInMarks, e1, e2]

theorem pe_cmpR {op : CmpOp} {r : R2} (ho : OpR X (compareOp op) r) (ha : PE X a ta) (hb : PE X b tb) (hm : behindInMarks op b = false) : PE X (.Compare a [op] [b] pos) (tOp r ta tb) := by
  refine ⟨?_⟩
  intro pins s σ H Q I h
  exact wpAny_Compare1 (binT ha hb I h fun v u s2 x y H2 I2 rx ry q => ho pins s2 σ H2 x y v u Q I2 rx ry q) hm

def tTest (t : TE) : TT := fun σ H Q => t σ H fun x H' => ∃ k, x = .bl k ∧ Q k H'
theorem pt_cmpR {op : CmpOp} {r : R2} (ho : OpR X (compareOp op) r) (ha : PE X a ta) (hb : PE X b tb) (hm : behindInMarks op b = false) : PT X (.Compare a [op] [b] pos) (tTest (tOp r ta tb)) := by
  refine ⟨?_⟩
  intro pins s σ H Q I h
  refine wpAny_isTrue_Compare1 (thn (ha pins s σ H _ I h) fun v s1 ⟨x, H1, I1, r1, q1⟩ => thn (hb pins s1 σ H1 _ I1 q1) fun u s2 ⟨y, H2, I2, r2, q2⟩ =>
    thn (ho pins s2 σ H2 x y v u _ I2 r1 r2 q2) fun c s3 ⟨z, H3, I3, r3, k, e, q3⟩ => ?_) hm
  subst e
  cases r3
  exact wpAny_truthy_bool ⟨H3, I3, q3⟩

def tChain (r r' : R2) (ta tb tc : TE) : TE := fun σ H Q => ta σ H fun x H1 => tb σ H1 fun y H2 => r x y H2 fun z H3 => ∃ k, z = .bl k ∧
  (if k = true then tc σ H3 fun w' H4 => r' y w' H4 Q else Q (.bl false) H3)
theorem pe_chain {op op' : CmpOp} {r r' : R2} (ho : OpR X (compareOp op) r) (ho' : OpR X (compareOp op') r') (ha : PE X a ta) (hb : PE X b tb) (hc : PE X c tc)
    (hm : lastMarks [op, op'] [b, c] = false := by with_unfolding_all rfl) : PE X (.Compare a [op, op'] [b, c] pos) (tChain r r' ta tb tc) := by
  refine ⟨?_⟩
  intro pins s σ H Q I h
  refine Compare_chain (thn (ha pins s σ H _ I h) fun v s1 ⟨x, H1, I1, r1, q1⟩ => chain_link (thn (hb pins s1 σ H1 _ I1 q1) fun u s2 ⟨y, H2, I2, r2, q2⟩ =>
    thn (ho pins s2 σ H2 x y v u _ I2 r1 r2 q2) fun d s3 ⟨z, H3, I3, r3, k, e, q3⟩ => ?_)) hm
  subst e
  cases r3
  refine wpAny_truthy_bool ?_
  cases k with
  | false => exact ite_ff ⟨.bl false, H3, I3, rfl, q3⟩
  | true => exact ite_tt (chain_last (thn (hc pins s3 σ H3 _ I3 q3) fun w' s4 ⟨z', H4, I4, r4, q4⟩ => ho' pins s4 σ H4 y z' u w' Q I4 r2 r4 q4))
theorem pt_chain {op op' : CmpOp} {r r' : R2} (ho : OpR X (compareOp op) r) (ho' : OpR X (compareOp op') r') (ha : PE X a ta) (hb : PE X b tb) (hc : PE X c tc)
    (hm : lastMarks [op, op'] [b, c] = false := by with_unfolding_all rfl) : PT X (.Compare a [op, op'] [b, c] pos) (tTest (tChain r r' ta tb tc)) := by
  refine ⟨?_⟩
  intro pins s σ H Q I h
  refine isTrue_chain (thn (ha pins s σ H _ I h) fun v s1 ⟨x, H1, I1, r1, q1⟩ => test_link (thn (hb pins s1 σ H1 _ I1 q1) fun u s2 ⟨y, H2, I2, r2, q2⟩ =>
    thn (ho pins s2 σ H2 x y v u _ I2 r1 r2 q2) fun d s3 ⟨z, H3, I3, r3, k, e, q3⟩ => ?_)) hm
  subst e
  cases r3
  refine wpAny_truthy_bool ?_
  cases k with
  | false =>
    obtain ⟨k', e', q'⟩ := q3
    cases e'
    exact ite_ff ⟨H3, I3, q'⟩
  | true =>
    refine ite_tt (test_last (thn (hc pins s3 σ H3 _ I3 q3) fun w' s4 ⟨z', H4, I4, r4, q4⟩ => thn (ho' pins s4 σ H4 y z' u w' _ I4 r2 r4 q4) fun d' s5 ⟨z2, H5, I5, r5, k2, e2, q5⟩ => ?_))
    subst e2
    cases r5
    exact wpAny_truthy_bool ⟨H5, I5, q5⟩

theorem line63 : (sizeLine : Nat) < 2 ^ 63 := by rw [sizeLine_eq]; decide
theorem op_add_str : OpR X (binaryOp .Add) (fun x y H Q => ∃ i j, x = .str i ∧ y = .str j ∧ i.length + j.length ≤ sizeLine ∧ Q (.str (i ++ j)) H) := by
  intro pins s σ H x y v u Q I rx ry h
  obtain ⟨i, j, rfl, rfl, hz, q⟩ := h
  obtain ⟨t, rfl⟩ := rx
  obtain ⟨t', rfl⟩ := ry
  exact add_str (fun t' tk => ⟨.str (i ++ j), H, I.tok _, ⟨_, rfl⟩, q⟩) hz
theorem vals1 {x : V} {us : List Value} (r : Vals [x] us) : ∃ u, us = [u] ∧ RelV x u := by
  cases r with
  | cons r1 r2 => cases r2; exact ⟨_, rfl, r1⟩
theorem vals2 {x y : V} {us : List Value} (r : Vals [x, y] us) : ∃ u w', us = [u, w'] ∧ RelV x u ∧ RelV y w' := by
  cases r with
  | cons r1 r2 =>
    cases r2 with
    | cons r3 r4 => cases r4; exact ⟨_, _, rfl, r1, r3⟩
theorem call_abs : CallR X (.builtin "abs") (fun xs H Q => ∃ i, xs = [.int i] ∧ Q (.int (if i < 0 then -i else i)) H) := by
  intro pins s σ H xs us Q I r h
  obtain ⟨i, rfl, q⟩ := h
  obtain ⟨u, rfl, t, rfl⟩ := vals1 r
  exact call_abs_int fun u tk => ⟨.int (if i < 0 then -i else i), H, I.tok _, ⟨_, rfl⟩, q⟩
theorem call_max2 (hc : X.calm = true) : CallR X (.builtin "max") (fun xs H Q => ∃ i j, xs = [.int i, .int j] ∧ Q (.int (if j > i then j else i)) H) := by
  intro pins s σ H xs us Q I r h
  obtain ⟨i, j, rfl, q⟩ := h
  obtain ⟨u, w', rfl, ⟨t, rfl⟩, ⟨t', rfl⟩⟩ := vals2 r
  refine max_two_ints (I.ok.hd hc) fun h' tk k => ⟨_, H, I.kept k, ?_, q⟩
  by_cases hj : j > i
  · rw [if_pos hj, if_pos hj]; exact ⟨_, rfl⟩
  · rw [if_neg hj, if_neg hj]; exact ⟨_, rfl⟩
theorem call_min2 (hc : X.calm = true) : CallR X (.builtin "min") (fun xs H Q => ∃ i j, xs = [.int i, .int j] ∧ Q (.int (if j < i then j else i)) H) := by
  intro pins s σ H xs us Q I r h
  obtain ⟨i, j, rfl, q⟩ := h
  obtain ⟨u, w', rfl, ⟨t, rfl⟩, ⟨t', rfl⟩⟩ := vals2 r
  refine min_two_ints (I.ok.hd hc) fun h' tk k => ⟨_, H, I.kept k, ?_, q⟩
  by_cases hj : j < i
  · rw [if_pos hj, if_pos hj]; exact ⟨_, rfl⟩
  · rw [if_neg hj, if_neg hj]; exact ⟨_, rfl⟩
def LenV (K : PySem.W.Frag) (x : V) (H : Hp) (n : Nat) : Prop :=
  match x with
  | .str y => y.length ≤ sizeLine ∧ n = y.length
  | .byt y => y.size ≤ sizeLine ∧ n = y.size
  | .ref p => (∃ xs, SqL K H p xs ∧ n = xs.length) ∨ ∃ xs, SqT K H p xs ∧ n = xs.length
  | _ => False
theorem call_len : CallR X (.builtin "len") (fun xs H Q => ∃ x n, xs = [x] ∧ LenV X.K x H n ∧ Q (.int n) H) := by
  intro pins s σ H xs us Q I r h
  obtain ⟨x, n, rfl, e, q⟩ := h
  obtain ⟨u, rfl, rx⟩ := vals1 r
  have hl := line63
  have hs : sizeLine = 16777216 := sizeLine_eq
  cases x with
  | str y =>
    obtain ⟨t, rfl⟩ := rx
    obtain ⟨hy, e'⟩ : y.length ≤ sizeLine ∧ n = y.length := e
    subst e'
    exact len_str (by omega) ⟨.int _, H, I.tok _, ⟨_, rfl⟩, q⟩
  | byt y =>
    obtain ⟨t, rfl⟩ := rx
    obtain ⟨hy, e'⟩ : y.size ≤ sizeLine ∧ n = y.size := e
    subst e'
    exact PySem.W.len_bytes (by omega) ⟨.int _, H, I.tok _, ⟨_, rfl⟩, q⟩
  | ref p =>
    cases rx
    have e' : (∃ xs, SqL X.K H p xs ∧ n = xs.length) ∨ ∃ xs, SqT X.K H p xs ∧ n = xs.length := e
    rcases e' with ⟨xs, hx, e'⟩ | ⟨xs, hx, e'⟩
    · subst e'
      obtain ⟨its, r', pl, hz⟩ := I.list hx
      have hlen := r'.length
      exact Calls.call_len_list pl.isList (by simp only [List.size_toArray]; omega) ⟨.int xs.length, H, I.tok _, ⟨_, by simp only [List.size_toArray]; rw [hlen]⟩, q⟩
    · subst e'
      obtain ⟨its, r', pl, hz⟩ := I.tuple hx
      have hlen := r'.length
      exact len_tuple pl (by simp only [List.size_toArray]; omega) ⟨.int xs.length, H, I.tok _, ⟨_, by simp only [List.size_toArray]; rw [hlen]⟩, q⟩
  | _ => exact (show False from e).elim

end
end L2

namespace L2
open PySem PySem.Spec PyProof.Rows

structure ObjM (h : Heap) (x dx C : Addr) (mA : Str → Option Value) : Prop where
  obj : h.get? x = some (PySem.W.instObj C dx)
  ns : h.Ns1 dx mA
  ne : dx ≠ x

theorem lookIn_ns {h : Heap} {dx : Addr} {mA : Str → Option Value} (n : h.Ns1 dx mA) : ∃ od, h.get? dx = some od ∧ ∀ name, PySem.W.lookIn name od = some (mA name) := by
  obtain ⟨o, es, ep, ho, hd, hk, _, hm⟩ := n
  refine ⟨o, ho, fun name => ?_⟩
  have e := hm name
  unfold nsFind findBy at e
  rw [← Array.find?_toList] at e
  unfold PySem.W.lookIn
  rw [hd]
  dsimp only
  split
  · rename_i y q
    rw [q] at e
    exact congrArg some e
  · rename_i q
    rw [q] at e
    have a : es.toList.any (·.refKey) = false := by
      rw [List.any_eq_false]
      intro y hy
      obtain ⟨z, t, hkey⟩ := hk y (Array.mem_toList_iff.mp hy)
      simp [DictEntry.refKey, hkey]
    have a' : ¬ es.toList.any (·.refKey) = true := by rw [a]; exact Bool.false_ne_true
    rw [if_neg a']
    exact congrArg some e

theorem ObjM.look {h : Heap} {x dx C : Addr} {mA : Str → Option Value} (I : ObjM h x dx C mA) : ∃ od, PySem.W.InstAt h x (PySem.W.instObj C dx) C (some od) ∧ ∀ name, PySem.W.lookIn name od = some (mA name) :=
  let ⟨od, ho, hl⟩ := lookIn_ns I.ns
  ⟨od, ⟨I.obj, rfl, rfl, ho⟩, hl⟩

section
variable {prog : Program} {w : World} {A : Around} {E : Value → Shared → Prop} {s : Shared} {K : PySem.W.Frag} {x dx C f : Addr} {mA : Str → Option Value} {name : Str} {v : Value}

end

theorem RelO.some_of {v : V} {o : Option Value} (r : RelO (some v) o) : ∃ u, o = some u ∧ RelV v u := by
  cases o with
  | none => exact (show False from r).elim
  | some u => exact ⟨u, rfl, r⟩
section
variable {P : Program} {w : World} {H H' : Hp} {h h' : Heap} {a C dx : Addr} {fs fs' : List (Str × V)}
theorem ins_get (hok : HOk P w H h) (e : H a = some (.ins C dx fs)) : ∃ mA, ObjM h a dx C mA ∧ (∀ f, RelO (fs.lookup f) (mA f)) ∧ PySem.Within mA (fs.map (·.1)) ∧ fs.length ≤ 1000 ∧ H dx = some (.own a) := by
  obtain ⟨d, z, ne, ob, mA, n, r, q⟩ := (show ObjOk P w H h a (.ins C dx fs) from hok a _ e)
  exact ⟨mA, ⟨ob, n, ne⟩, r, q, z, d⟩
end

structure Cls (K : PySem.W.Frag) (C : Addr) : Prop where
  pg : PySem.W.plainGet K C Str.empty = true
  hd : PySem.W.hasDictIn K C = true
  po : PySem.W.plainOver K C = true
  sa : PySem.W.findIn K (.ref C) "__setattr__" = some (some (.builtin "object.__setattr__"))
theorem Cls.get {K : PySem.W.Frag} {C : Addr} (c : Cls K C) (f : Str) : PySem.W.plainGet K C f = true := c.pg

section
variable {X : Cx} {pins : List (Addr × Obj)} {σ : St} {H : Hp} {s : Shared} {a C dx : Addr} {fs : List (Str × V)} {f : Str} {v : V} {A : Around} {E : Value → Shared → Prop}

theorem Inv.made (I : Inv X pins σ H s) : Inv X pins σ (upd (upd H s.heap.objs.size (.own (s.heap.objs.size + 1))) (s.heap.objs.size + 1) (.ins C s.heap.objs.size []))
    { s with heap := (s.heap.push PySem.W.emptyDict).push (PySem.W.instObj C s.heap.objs.size) } := by
  have e1 : (s.heap.push PySem.W.emptyDict).get? s.heap.objs.size = some PySem.W.emptyDict := Heap.get?_push_size s.heap rfl
  have e2 : ((s.heap.push PySem.W.emptyDict).push (PySem.W.instObj C s.heap.objs.size)).get? (s.heap.objs.size + 1) = some (PySem.W.instObj C s.heap.objs.size) := by
    have := Heap.get?_push_size (s.heap.push PySem.W.emptyDict) (o := PySem.W.instObj C s.heap.objs.size) rfl
    rwa [Heap.size_push] at this
  have e3 : (s.heap.push PySem.W.emptyDict).Ns s.heap.objs.size (fun _ => none) := ⟨PySem.W.emptyDict, #[], _, e1, rfl, (fun e he => absurd he (by simp)), fun _ => rfl⟩
  have I1 := I.laid (a := s.heap.objs.size) (o := .own (s.heap.objs.size + 1)) (h' := s.heap.push PySem.W.emptyDict) (t' := s.toks) (fun b u q => Heap.get?_push_of_some _ q) (Nat.le_refl _) ⟨_, e1⟩
  refine I1.laid (a := s.heap.objs.size + 1) (o := .ins C s.heap.objs.size []) (t' := s.toks) (fun b u q => Heap.get?_push_of_some _ q) (Nat.le_of_eq (Heap.size_push _ _)) ?_
  have ne : s.heap.objs.size ≠ s.heap.objs.size + 1 := Nat.ne_of_lt (Nat.lt_succ_self _)
  refine ⟨by rw [upd_ne ne, upd_same], Nat.zero_le _, ne, e2, fun _ => none, (Heap.Ns1.of_empty e3).at fun o q => Heap.get?_push_of_some _ q, fun _ => True.intro, fun y hy => absurd rfl hy⟩

end

section
variable {X : Cx} {o e value : Expr} {f : Str} {pos pos' tpos : Pos} {ta tv : TE}
end

section
variable {X : Cx} {pins : List (Addr × Obj)} {σ : St} {H : Hp} {s : Shared} {A : Around} {E : Value → Shared → Prop} {Q : Value → Shared → Prop} {c : Value} {b : Bool}

inductive TyOf (K : PySem.W.Frag) (H : Hp) : V → Value → Prop where
  | non : TyOf K H .non (.type "NoneType")
  | bl (x : Bool) : TyOf K H (.bl x) (.type "bool")
  | int (i : Int) : TyOf K H (.int i) (.type "int")
  | str (x : Str) : TyOf K H (.str x) (.type "str")
  | flt (x : UInt64) : TyOf K H (.flt x) (.type "float")
  | lst {a : Addr} {xs : List V} (e : H a = some (.lst xs)) : TyOf K H (.ref a) (.type "list")
  | frz {a : Addr} {o : Obj} {xs : List V} (e : H a = some (.frz o (.lst xs))) : TyOf K H (.ref a) (.type "list")
  | tup {a : Addr} {xs : List V} (e : H a = some (.tup xs)) : TyOf K H (.ref a) (.type "tuple")
  | dK {a : Addr} {kvs : List (Key × V)} (e : H a = some (.dK kvs)) : TyOf K H (.ref a) (.type "dict")
  | dT {a : Addr} {kvs : List (List Key × V)} (e : H a = some (.dT kvs)) : TyOf K H (.ref a) (.type "dict")
  | ins {a C dx : Addr} {fs : List (Str × V)} (e : H a = some (.ins C dx fs)) (cl : Cls K C) (ha : PySem.W.findIn K (.ref C) "__class__" = some (some (.builtin "object.__class__")))
      (hn : PySem.W.specialIn K (.builtin "object.__class__") "__get__" = some (some (.builtin "getset_descriptor.__get__"))) (htk : PySem.W.takesIn K (.builtin "object.__class__") = some true)
      (hm : PySem.W.mroIn K C (.type "object") = some true) : TyOf K H (.ref a) (.ref C)

theorem isinst_ok {x : V} {u t : Value} (I : Inv X pins σ H s) (rx : RelV x u) (ty : TyOf X.K H x t) (e : PySem.W.kitOne X.K t c = some b) (h : ∀ tk, Q (.bool b) { s with toks := tk }) :
    wpAny (model X.prog X.w) A (call (.builtin "isinstance") [u, c]) Q E s := by
  cases ty with
  | non => cases (show u = Value.none from rx); exact PySem.W.kia_one PySem.W.kitx_none I.kIn True.intro e (fun z => nomatch z) h
  | bl y => cases (show u = Value.bool y from rx); exact PySem.W.kia_one PySem.W.kitx_bool I.kIn True.intro e (fun z => nomatch z) h
  | int i => obtain ⟨t, q⟩ := (show ∃ t, u = Value.int i t from rx); cases q; exact PySem.W.kia_one PySem.W.kitx_int I.kIn True.intro e (fun z => nomatch z) h
  | str y => obtain ⟨t, q⟩ := (show ∃ t, u = Value.str y t from rx); cases q; exact PySem.W.kia_one PySem.W.kitx_str I.kIn True.intro e (fun z => nomatch z) h
  | flt y => obtain ⟨t, q⟩ := (show ∃ t, u = Value.float y t from rx); cases q; exact PySem.W.kia_one PySem.W.kitx_float I.kIn True.intro e (fun z => nomatch z) h
  | @lst a xs ea =>
    cases (show u = Value.ref a from rx)
    obtain ⟨_, _, n, _, h1⟩ := (show ObjOk X.prog X.w H s.heap a (.lst xs) from I.hok a _ ea)
    exact PySem.W.kia_one PySem.W.kitx_list I.kIn ⟨_, h1, rfl⟩ e (fun z => nomatch z) h
  | @frz a ob xs ea =>
    cases (show u = Value.ref a from rx)
    obtain ⟨_, _, _, n, _, h1⟩ := (show ObjOk X.prog X.w H s.heap a (.frz ob (.lst xs)) from I.hok a _ ea)
    exact PySem.W.kia_one PySem.W.kitx_list I.kIn ⟨_, h1, rfl⟩ e (fun z => nomatch z) h
  | @tup a xs ea =>
    cases (show u = Value.ref a from rx)
    obtain ⟨_, _, _, p⟩ := (show ObjOk X.prog X.w H s.heap a (.tup xs) from I.hok a _ ea)
    obtain ⟨o, h1, h2, _⟩ := p
    exact PySem.W.kia_one PySem.W.kitx_tuple I.kIn ⟨o, h1, h2⟩ e (fun z => nomatch z) h
  | @dK a kvs ea =>
    cases (show u = Value.ref a from rx)
    obtain ⟨_, _, vs, _, p⟩ := (show ObjOk X.prog X.w H s.heap a (.dK kvs) from I.hok a _ ea)
    obtain ⟨o, es, ep, h1, h2, _⟩ := p
    exact PySem.W.kia_one PySem.W.kitx_dict I.kIn ⟨o, h1, h2.1⟩ e (fun z => nomatch z) h
  | @dT a kvs ea =>
    cases (show u = Value.ref a from rx)
    obtain ⟨_, _, xs, _, o, es, ep, h1, h2, _⟩ := (show ObjOk X.prog X.w H s.heap a (.dT kvs) from I.hok a _ ea)
    exact PySem.W.kia_one PySem.W.kitx_dict I.kIn ⟨o, h1, h2.1⟩ e (fun z => nomatch z) h
  | @ins a C dx fs ea cl ha hn htk hm =>
    cases (show u = Value.ref a from rx)
    obtain ⟨mA, O, _⟩ := ins_get I.hok ea
    obtain ⟨od, J, _⟩ := O.look
    exact PySem.W.kia_one (PySem.W.kitx_own (cl.get _) cl.hd ha hn htk hm) I.kIn J e (fun z => nomatch z) h
end
end L2

namespace L2
open PySem PySem.Spec PyProof.Rows

structure Room (k : Nat) (A : Around) : Prop where
  hd : A.handled = none
  dp : A.depth + 3 * k + 5 < recursionLimit
  un : A.units + 16 * k + 200 < cLine
theorem Room.mono {j k : Nat} {A : Around} (r : Room k A) (h : j ≤ k) : Room j A := ⟨r.hd, by have := r.dp; omega, by have := r.un; omega⟩
theorem Room.deeper {k : Nat} {A : Around} (r : Room (k + 1) A) (env : Env) : Room k (A.deeper env) :=
  ⟨r.hd, by have := r.dp; show A.depth + 1 + 3 * k + 5 < _; omega, by have := r.un; show A.units + 3 + 16 * k + 200 < _; omega⟩
theorem Room.in1 {k : Nat} {A : Around} (r : Room (k + 1) A) : Room k A.in1 :=
  ⟨r.hd, by have := r.dp; show A.depth + 3 * k + 5 < _; omega, by have := r.un; show A.units + 1 + 16 * k + 200 < _; omega⟩
theorem Room.depth {k : Nat} {A : Around} (r : Room k A) : A.depth < recursionLimit := by have := r.dp; omega
theorem Room.units {k : Nat} {A : Around} (r : Room k A) : A.units + 64 < cLine := by have := r.un; omega
def tNil : TA := fun _ H Q => Q [] H
def tCons (ta : TE) (tr : TA) : TA := fun σ H Q => ta σ H fun x H1 => tr σ H1 fun xs H2 => Q (x :: xs) H2
section
variable {X : Cx} {e : Expr} {es : List Expr} {te : TE} {t : TA} {pos : Pos}
theorem pa_nil : PA X [] tNil := ⟨fun _ _ _ _ H Q I h => Calls.spliced_nil ⟨[], H, I, .nil, h⟩⟩
theorem pa_cons (ha : PE X e te) (hr : PA X es t) (hs : starEach (e :: es) X.env = (false, eval e X.env) :: starEach es X.env := by rfl) : PA X (e :: es) (tCons te t) := by
  refine ⟨?_⟩
  intro pos pins s σ H Q I h
  rw [hs]
  show wpAny _ _ (spliced ((false, eval e X.env) :: backTo pos (starEach es X.env))) _ _ s
  refine Calls.spliced_cons (thn (ha pins s σ H _ I h) fun u s1 ⟨x, H1, I1, r1, q1⟩ => ?_)
  exact thn (hr pos pins s1 σ H1 _ I1 q1) fun us s2 ⟨xs, H2, I2, r2, q2⟩ => ⟨x :: xs, H2, I2, .cons r1 r2, q2⟩

def tTup (t : TA) : TE := fun σ H Q => t σ H fun xs H1 => xs.length ≤ sizeLine ∧ ∀ p, H1 p = none → Q (.ref p) (upd H1 p (.tup xs))
def tLst (t : TA) : TE := fun σ H Q => t σ H fun xs H1 => xs.length ≤ sizeLine ∧ ∀ p, H1 p = none → Q (.ref p) (upd H1 p (.lst xs))
theorem pe_tup {x1} (h : PA X es t) : PE X (.Tuple es x1 pos) (tTup t) := by
  refine ⟨?_⟩
  intro pins s σ H Q I hq
  refine wpAny_Tuple_spliced (thn (h pos pins s σ H _ I hq) fun us s1 ⟨xs, H1, I1, r, z, q⟩ => ⟨by rw [← r.length]; exact z, ?_⟩)
  have hf : H1 s1.heap.objs.size = none := I1.hok.fresh (Nat.le_refl _)
  refine ⟨.ref s1.heap.objs.size, upd H1 s1.heap.objs.size (.tup xs), I1.laid (t' := s1.toks) (fun b u e => Heap.get?_push_of_some _ e) (Nat.le_refl _) ?_, rfl, q _ hf⟩
  exact ⟨z, us, r, ⟨_, Heap.get?_push_size _ rfl, rfl, _, rfl, rfl⟩⟩
theorem pe_lst (h : PA X es t) : PE X (.List es pos) (tLst t) := by
  refine ⟨?_⟩
  intro pins s σ H Q I hq
  refine wpAny_List_spliced (thn (h pos pins s σ H _ I hq) fun us s1 ⟨xs, H1, I1, r, z, q⟩ => ⟨by rw [← r.length]; exact z, ?_⟩)
  have hf : H1 s1.heap.objs.size = none := I1.hok.fresh (Nat.le_refl _)
  refine ⟨.ref s1.heap.objs.size, upd H1 s1.heap.objs.size (.lst xs), I1.laid (t' := s1.toks) (fun b u e => Heap.get?_push_of_some _ e) (Nat.le_refl _) ?_, rfl, q _ hf⟩
  exact ⟨z, us, 0, r, Heap.get?_push_size _ rfl⟩
end

abbrev Sp := List V → Hp → VK → XK → Prop

abbrev CXT := List Env → Hp → Shared → XK → Value → Shared → Prop

structure Env0 (P : Program) (w : World) (K : PySem.W.Frag) (mg : Str → Option Value) (base : Heap) (A : Around) (outer : List Env) (s : Shared) (H : Hp) : Prop where
  frames : A.frames = some outer
  mod : Mod K mg base
  bs : ∀ b o, base.get? b = some o → s.heap.get? b = some o ∧ H b = none
  bsz : base.objs.size ≤ s.heap.objs.size
  funs : s.heap.FunFrames base outer
  frf : ∀ b ∈ frs outer, H b = none
  hok : HOk P w H s.heap
  bare : AllBare s.gens

def CE (outer : List Env) (P : Program) (w : World) (H : Hp) (s : Shared) (Q : VK) (u : Value) (s' : Shared) : Prop :=
  ∃ v H', s'.os = s.os ∧ Gn s.gens.size s'.gens ∧ Un (frs outer) [] H H' s.heap s'.heap ∧ HOk P w H' s'.heap ∧ RelV v u ∧ Q v H'
def CR (CX : CXT) (outer : List Env) (P : Program) (w : World) (H : Hp) (s : Shared) (Q : VK) (E : XK) (r : Result) (s' : Shared) : Prop :=
  match r with
  | .ok (.ret u) => CE outer P w H s Q u s'
  | .ok _ => False
  | .error e => CX outer H s E e s'
structure FnOk (P : Program) (w : World) (K : PySem.W.Frag) (mg : Str → Option Value) (base : Heap) (CX : CXT) (k : Nat) (f : Addr) (fd : FuncData) (ps : List Str) (sp : Sp) : Prop where
  len : ∀ vs H Q E, sp vs H Q E → vs.length = ps.length
  run : ∀ (A : Around) (outer : List Env) (s : Shared) (H : Hp) (args : Args) (us : List Value) (vs : List V) (Q : VK) (E : XK), Room k A → Env0 P w K mg base A outer s H → BindsTo s fd args (ps.zip us) → Vals vs us → sp vs H Q E →
    codeAny (model P w) A (.call (.ref f) args) (CR CX outer P w H s Q E) s
theorem FnOk.mono {P : Program} {w : World} {K : PySem.W.Frag} {mg : Str → Option Value} {base : Heap} {CX : CXT} {j k : Nat} {f : Addr} {fd : FuncData} {ps : List Str} {sp : Sp} (F : FnOk P w K mg base CX j f fd ps sp) (h : j ≤ k) :
    FnOk P w K mg base CX k f fd ps sp := ⟨F.len, fun A outer s H args us vs Q E hr => F.run A outer s H args us vs Q E (hr.mono h)⟩

theorem FnOk.imp {P : Program} {w : World} {K : PySem.W.Frag} {mg : Str → Option Value} {base : Heap} {CX : CXT} {k : Nat} {f : Addr} {fd : FuncData} {ps : List Str} {sp sp' : Sp} (F : FnOk P w K mg base CX k f fd ps sp)
    (h : ∀ vs H Q E, sp' vs H Q E → sp vs H Q E) : FnOk P w K mg base CX k f fd ps sp' :=
  ⟨fun vs H Q E q => F.len vs H Q E (h _ _ _ _ q), fun A outer s H args us vs Q E hr he hb hv hs => F.run A outer s H args us vs Q E hr he hb hv (h _ _ _ _ hs)⟩

theorem Env0.in1 {P : Program} {w : World} {K : PySem.W.Frag} {mg : Str → Option Value} {base : Heap} {A : Around} {outer : List Env} {s : Shared} {H : Hp} (e : Env0 P w K mg base A outer s H) :
    Env0 P w K mg base A.in1 outer s H := ⟨e.frames, e.mod, e.bs, e.bsz, e.funs, e.frf, e.hok, e.bare⟩

section
variable {X : Cx} {pins : List (Addr × Obj)} {σ : St} {H : Hp} {s s' : Shared}

theorem Inv.env0 (I : Inv X pins σ H s) : Env0 X.prog X.w X.K X.mg X.base X.A X.stack s H :=
  ⟨I.ok.frames, I.ok.mod, I.bs, Nat.le_trans I.ok.bsz I.sz, I.stack, I.stkFree, I.hok, I.bare.1⟩

theorem Inv.after {Q : VK} {u : Value} (I : Inv X pins σ H s) (h : CE X.stack X.prog X.w H s Q u s') : EP X pins σ Q u s' := by
  obtain ⟨v, H', os, bare, un, hok, r, q⟩ := h
  obtain ⟨hh, g, d, t, os'⟩ := s'
  obtain rfl : os' = s.os := os
  exact ⟨v, H', I.call (h' := hh) (g' := g) (d' := d) (t' := t) (ch := []) un hok bare (fun b z => absurd z (by simp)), r, q⟩
end

def tCall (sp : Sp) (dvs : List V) (E : XK) (t : TA) : TE := fun σ H Q => t σ H fun vs H1 => sp (vs ++ dvs) H1 Q E

def Binds (K : PySem.W.Frag) (fd : FuncData) (ps : List Str) (ds : List Value) : Prop :=
  ∀ (s : Shared) (us : List Value), K.In s.heap → (us ++ ds).length = ps.length → BindsTo s fd ⟨us, []⟩ (ps.zip (us ++ ds))

theorem Binds.all {K : PySem.W.Frag} {fd : FuncData} {ps : List Str} (h : ∀ us : List Value, us.length = ps.length → bindArgs fd ⟨us, []⟩ = pure (ps.zip us)) : Binds K fd ps [] := fun s us _ hl => by
  rw [List.append_nil] at hl ⊢
  exact .of_eq (h us hl)

def Passes (CX : CXT) (X : Cx) (E : XK) : Prop := ∀ (pins : List (Addr × Obj)) (σ : St) (H : Hp) (s : Shared) (e : Value) (s' : Shared), Inv X pins σ H s → CX X.stack H s E e s' → X.xe e s'

section
variable {X : Cx} {CX : CXT} {k : Nat} {f C : Addr} {fd : FuncData} {ps : List Str} {sp : Sp} {dvs : List V} {ds : List Value} {E : XK} {x m : Str} {p pos apos : Pos} {e o : Expr} {es : List Expr} {ta : TE} {t : TA}

theorem run_fn {pins : List (Addr × Obj)} {σ : St} {H : Hp} {s : Shared} {Q : VK} {us : List Value} {vs : List V} (F : FnOk X.prog X.w X.K X.mg X.base CX k f fd ps sp) (hr : Room k X.A) (hb : Binds X.K fd ps ds) (hd : Vals dvs ds) (hx : Passes CX X E)
    (I : Inv X pins σ H s) (r : Vals vs us) (h : sp (vs ++ dvs) H Q E) : wpAny (model X.prog X.w) X.A (call (.ref f) us) (EP X pins σ Q) X.xe s := by
  have r2 : Vals (vs ++ dvs) (us ++ ds) := r.append hd
  have hl : (us ++ ds).length = ps.length := by rw [← r2.length]; exact F.len _ _ _ _ h
  refine wpAny_call (codeAny_mono (F.run X.A X.stack s H ⟨us, []⟩ (us ++ ds) (vs ++ dvs) Q E hr I.env0 (hb s us I.kIn hl) r2 h) fun r s' hq => ?_)
  cases r with
  | error e => exact hx pins σ H s e s' I hq
  | ok fl =>
    cases fl with
    | ret u => exact I.after hq
    | next => exact False.elim hq
    | brk => exact False.elim hq
    | cont => exact False.elim hq

theorem pe_call (F : FnOk X.prog X.w X.K X.mg X.base CX k f fd ps sp) (hr : Room k X.A) (hg : Gl X x) (hm : X.mg x = some (.ref f)) (hk : PySem.W.keepIn X.K (.ref f) = true) (hb : Binds X.K fd ps ds) (hd : Vals dvs ds) (hx : Passes CX X E)
    (ha : PA X (e :: es) t) (hdb : (x == ("__debug__" : Str)) = false := by decide) (he : starEach (e :: es) X.env = (false, eval e X.env) :: starEach es X.env := by rfl) (hpl : (backTo pos (starEach es X.env)).any (·.1) = false := by rfl) :
    PE X (.Call (.Name x p) (e :: es) [] pos) (tCall sp dvs E t) := by
  refine ⟨?_⟩
  intro pins s σ H Q I h
  refine wpAny_Call_Name_kw (ld_glob I hg hm ?_ hdb)
  refine PySem.W.callWith_K (h₀ := X.base) I.ok.mod.kin hk (thn (ha pos pins s σ H _ I h) fun us s1 ⟨vs, H1, I1, r, q⟩ => ⟨I1.kIn, ?_⟩) he hpl
  exact run_fn F hr hb hd hx I1 r q
end

section
variable {X : Cx} {CX : CXT} {k : Nat} {f C : Addr} {fd : FuncData} {ps ks : List Str} {sp : Sp} {E : XK} {x m : Str} {p pos apos kpos : Pos} {e o : Expr} {es : List Expr} {kws : List Keyword} {te ta : TE} {t tk : TA} {nm : Option Str}
variable {g : List Value → List Value → List Value} {gV : List V → List V → List V}
end

structure FnScope (N P : List Str) (sc : Scope) : Prop where
  kind : sc.kind = .function
  co : sc.isCoroutine = false
  gen : sc.isGenerator = false
  nd : N.Nodup
  pre : N.take P.length = P
  par : ∀ x ∈ P, sc.names.lookup x = some .local ∨ sc.names.lookup x = some .cell
  nofree : ∀ y ∈ sc.names, y.2 ≠ .free

theorem bindL_out {kindOf : Str → Option NameKind} {x : Str} : ∀ {binds : List (Str × Value)} {m : Str → Option Value}, (∀ v, (x, v) ∉ binds) → bindL kindOf binds m x = m x
  | [], _, _ => rfl
  | (n, v) :: r, m, h => by
    unfold bindL
    rw [bindL_out fun w hw => h w (List.mem_cons_of_mem _ hw)]
    split
    · have : x ≠ n := by rintro rfl; exact h v List.mem_cons_self
      simp [this]
    · rfl
theorem bindC_out {kindOf : Str → Option NameKind} {x : Str} : ∀ {binds : List (Str × Value)} {m : Str → Option Value}, (∀ v, (x, v) ∉ binds) → bindC kindOf binds m x = m x
  | [], _, _ => rfl
  | (n, v) :: r, m, h => by
    unfold bindC
    rw [bindC_out fun w hw => h w (List.mem_cons_of_mem _ hw)]
    split
    · rfl
    · have : x ≠ n := by rintro rfl; exact h v List.mem_cons_self
      simp [this]
theorem bindL_get {kindOf : Str → Option NameKind} {x : Str} {v : Value} : ∀ {P : List Str} {vs : List Value} {i : Nat} {m : Str → Option Value}, P.Nodup → P[i]? = some x → vs[i]? = some v → kindOf x = some .local →
    bindL kindOf (P.zip vs) m x = some v
  | [], _, _, _, _, h, _, _ => by simp at h
  | _ :: _, [], _, _, _, _, h, _ => by simp at h
  | p :: P, w :: vs, 0, m, nd, h1, h2, hk => by
    simp at h1 h2; subst h1; subst h2
    show bindL kindOf ((p, w) :: P.zip vs) m p = _
    unfold bindL
    rw [bindL_out fun v hv => (List.nodup_cons.mp nd).1 (List.of_mem_zip hv).1, if_pos hk]
    simp
  | p :: P, w :: vs, i + 1, m, nd, h1, h2, hk => by
    show bindL kindOf ((p, w) :: P.zip vs) m x = _
    unfold bindL
    exact bindL_get (i := i) (List.nodup_cons.mp nd).2 (by simpa using h1) (by simpa using h2) hk
theorem bindC_get {kindOf : Str → Option NameKind} {x : Str} {v : Value} : ∀ {P : List Str} {vs : List Value} {i : Nat} {m : Str → Option Value}, P.Nodup → P[i]? = some x → vs[i]? = some v → kindOf x ≠ some .local →
    bindC kindOf (P.zip vs) m x = some v
  | [], _, _, _, _, h, _, _ => by simp at h
  | _ :: _, [], _, _, _, _, h, _ => by simp at h
  | p :: P, w :: vs, 0, m, nd, h1, h2, hk => by
    simp at h1 h2; subst h1; subst h2
    show bindC kindOf ((p, w) :: P.zip vs) m p = _
    unfold bindC
    rw [bindC_out fun v hv => (List.nodup_cons.mp nd).1 (List.of_mem_zip hv).1, if_neg hk]
    simp
  | p :: P, w :: vs, i + 1, m, nd, h1, h2, hk => by
    show bindC kindOf ((p, w) :: P.zip vs) m x = _
    unfold bindC
    exact bindC_get (i := i) (List.nodup_cons.mp nd).2 (by simpa using h1) (by simpa using h2) hk

def start (N : List Str) (vs : List V) : St := vs.map some ++ List.replicate (N.length - vs.length) none

def cxOf (CX : CXT) (P : Program) (w : World) (K : PySem.W.Frag) (mg : Str → Option Value) (base : Heap) (N : List Str) (qual : Str) (scope : Scope) (f : Addr) (cd : Value) (A : Around) (outer : List Env) (s : Shared) (H : Hp) (E : XK) : Cx where
  prog := P
  w := w
  K := K
  mg := mg
  base := base
  A := A.deeper (envOfC qual scope s.heap.objs.size f cd)
  N := N
  s₀ := s
  H₀ := H
  env := envOfC qual scope s.heap.objs.size f cd
  outer := outer
  stack := envOfC qual scope s.heap.objs.size f cd :: outer
  ex := []
  calm := true
  fn := fun _ => true
  pn := []
  xe := fun e s' => wpAny (model P w) (A.deeper (envOfC qual scope s.heap.objs.size f cd)) (leaving (envOfC qual scope s.heap.objs.size f cd) e) (fun _ s'' => CX outer H s E e s'') (fun e' s'' => CX outer H s E e' s'') s'

theorem cell_has {sc : Scope} {n : Nat} {x : Str} (h : sc.names.lookup x = some .cell) : ∃ c, (cellsFrom n sc.names []).lookup x = some c := by
  have q := PySem.W.cellsFrom_some sc.names n [] (.inl h)
  exact Option.isSome_iff_exists.mp q

theorem inv_start {CX : CXT} {P : Program} {w : World} {K : PySem.W.Frag} {mg : Str → Option Value} {base : Heap} {N ps : List Str} {qual : Str} {scope : Scope} {f : Addr} {cd : Value} {A : Around} {outer : List Env} {s s1 : Shared} {H : Hp} {E : XK} {us : List Value} {vs : List V}
    (S : FnScope N ps scope) (hd : A.handled = none) (e0 : Env0 P w K mg base A outer s H) (hl : vs.length = ps.length) (r : Vals vs us)
    (x : InCallC s s.heap.objs.size (bindL (envOfC qual scope s.heap.objs.size f cd).kindOf (ps.zip us) fun _ => none) (cellsFrom (s.heap.objs.size + 1) scope.names []) (bindC (envOfC qual scope s.heap.objs.size f cd).kindOf (ps.zip us) fun _ => none) s1) :
    Inv (cxOf CX P w K mg base N qual scope f cd A outer s H E) [] (start N vs) H s1 := by
  have hpl : ps.length ≤ N.length := by have := congrArg List.length S.pre; rw [List.length_take] at this; omega
  obtain ⟨h1, tk, rfl, hk⟩ := x.done
  have noA : ∀ b : Addr, b ∉ (cxOf CX P w K mg base N qual scope f cd A outer s H E).ex := fun b z => absurd (show b ∈ ([] : List Addr) from z) (by simp)
  refine ⟨⟨e0.mod, S.kind, rfl, rfl, Nat.le_refl _, fun y z c h1 h2 => ?_, fun y hy => ?_, fun y c _ h => ?_, fun _ => hd, Around.frames_deeper e0.frames, .inr ⟨rfl, rfl⟩, fun b z => absurd z (noA b), e0.bs, e0.bsz, fun b _ _ => noA b, fun b z => absurd z (noA b), e0.funs, e0.frf⟩,
    rfl, ⟨e0.bare, Nat.le_refl _⟩, Un.kept hk, ⟨_, x.toInCall.ns, fun i y v h1 h2 h3 => ?_⟩, fun y c h => ⟨_, x.cell y c h⟩, e0.hok.fresh (Nat.le_refl _), fun y c h => ?_, fun p hp => absurd (show p ∈ ([] : List (Addr × Obj)) from hp) (by simp), e0.hok.kept hk, ?_⟩
  · exact name_of_addr x.apart (PySem.mem_of_lookup h1) (PySem.mem_of_lookup h2)
  · have hy : scope.names.lookup y = some .cell ∨ scope.names.lookup y = some .free := hy
    rcases hy with hy | hy
    · exact cell_has hy
    · exact absurd rfl (S.nofree _ (PySem.mem_of_lookup hy))
  · exact Nat.le_of_lt (x.above y c (PySem.mem_of_lookup h))
  · have hi : i < vs.length := by
      unfold start at h2
      by_cases hi : i < vs.length
      · exact hi
      · rw [List.getElem?_append_right (by simpa using hi)] at h2
        rw [List.getElem?_replicate] at h2
        split at h2 <;> cases h2
    have ha : vs[i]? = some v := by
      unfold start at h2
      rw [List.getElem?_append_left (by simpa using hi), List.getElem?_map] at h2
      cases e : vs[i]? with
      | none => rw [e] at h2; cases h2
      | some a => rw [e] at h2; cases h2; rfl
    obtain ⟨u, hu, rv⟩ := r.get ha
    have hp : ps[i]? = some y := by
      rw [← S.pre, List.getElem?_take_of_lt (by omega)]; exact h1
    have ndP : ps.Nodup := by rw [← S.pre]; exact S.nd.sublist (List.take_sublist _ _)
    refine ⟨u, rv, ?_⟩
    rcases S.par y (List.mem_of_getElem? hp) with k | k
    · exact .inl ⟨k, bindL_get ndP hp hu k⟩
    · obtain ⟨c, e⟩ := cell_has (n := s.heap.objs.size + 1) k
      refine .inr ⟨.inl k, c, e, ?_⟩
      have q := x.cell y c e
      rw [bindC_get ndP hp hu (by show scope.names.lookup y ≠ _; rw [k]; decide)] at q
      exact q
  · exact e0.hok.fresh (Nat.le_of_lt (x.above y c (PySem.mem_of_lookup h)))
  · unfold start
    show _ = N.length
    rw [List.length_append, List.length_map, List.length_replicate]
    omega

theorem fn_of {CX : CXT} {P : Program} {w : World} {K : PySem.W.Frag} {mg : Str → Option Value} {base : Heap} {k : Nat} {f : Addr} {name qual : Str} {params : Arguments} {body : List Stmt} {scope : Scope} {dV kV doc pm cdv ct oc : Value} {an od : Option Addr}
    {osl : Array (Option Value)} {N ps : List Str} {sp : Sp} (lk : K.lookup f = some ⟨oc, od, .func (PySem.W.fnOf name qual params body scope dV kV doc pm an cdv ct), osl⟩) (hcd : PySem.W.codeIn K cdv qual = true) (S : FnScope N ps scope)
    (len : ∀ vs H Q E, sp vs H Q E → vs.length = ps.length)
    (hbody : ∀ (A : Around) (outer : List Env) (s : Shared) (H : Hp) (vs : List V) (Q : VK) (E : XK), Room k (A.deeper (envOfC qual scope s.heap.objs.size f cdv)) → sp vs H Q E →
      ∃ t, PSs (cxOf CX P w K mg base N qual scope f cdv A outer s H E) body t ∧ t { nx := fun _ H' => Q .non H', rt := Q } (start N vs) H) :
    FnOk P w K mg base CX (k + 1) f (PySem.W.fnOf name qual params body scope dV kV doc pm an cdv ct) ps sp := by
  refine ⟨len, fun A outer s H args us vs Q E hr e0 hb r hsp => ?_⟩
  have hl := len _ _ _ _ hsp
  have KX : K.In s.heap := e0.mod.kin.keeps fun b o e => (e0.bs b o e).1
  have lim : s.heap.NoLimit := e0.mod.nolimit.keeps fun b o e => (e0.bs b o e).1
  have hkind : ∀ y ∈ ps.zip us, scope.names.lookup y.1 = some .local ∨ (scope.names.lookup y.1 = some .cell ∧ ((cellsFrom (s.heap.objs.size + 1) scope.names []).lookup y.1).isSome = true) := fun ⟨n, v⟩ hy => by
    rcases S.par n (List.of_mem_zip hy).1 with q | q
    · exact .inl q
    · exact .inr ⟨q, PySem.W.cellsFrom_some _ _ _ (.inl q)⟩
  refine codeAny_call_function hr.depth (KX _ _ lk) rfl S.co S.gen rfl (PySem.W.codeRec_of KX hcd) (hb _ _ _ _ ?_)
  refine wpAny_newFunctionEnv_cells S.kind hkind fun env he s1 x => ?_
  subst he
  refine ⟨lim.keeps x.toInCall.keep, codeAny_func ?_⟩
  obtain ⟨t, ht, hq⟩ := hbody A outer s H vs Q E (hr.deeper _) hsp
  have I : Inv (cxOf CX P w K mg base N qual scope f cdv A outer s H E) [] (start N vs) H s1 := inv_start S hr.hd e0 hl r x
  refine wpAny_mono (ht [] s1 (start N vs) H _ I hq) (fun fl s' hs => ?_) fun e s' hs => hs
  have fin : ∀ {σ' : St} {H' : Hp} {v : V} {u : Value}, Inv (cxOf CX P w K mg base N qual scope f cdv A outer s H E) [] σ' H' s' → RelV v u → Q v H' → CE outer P w H s Q u s' :=
    fun {σ' H' v u} J rv q => ⟨v, H', J.os, J.bare, J.base, J.hok, rv, q⟩
  cases fl with
  | ret u =>
    obtain ⟨v, σ', H', J, rv, q⟩ := hs
    exact fin J rv q
  | next =>
    obtain ⟨σ', H', J, q⟩ := hs
    exact fin (v := V.non) (u := Value.none) J rfl q
  | brk =>
    obtain ⟨_, _, _, q⟩ := hs
    exact False.elim q
  | cont =>
    obtain ⟨_, _, _, q⟩ := hs
    exact False.elim q
end L2

namespace L2
open PySem PySem.Spec PyProof.Rows
section
variable {X : Cx} {x : Str} {p pos : Pos} {e : Expr} {es : List Expr} {t : TA} {id T : String} {r : List V → Hp → VK → Prop}

def tCB (r : List V → Hp → VK → Prop) (t : TA) : TE := fun σ H Q => t σ H fun vs H1 => r vs H1 Q

theorem pe_callB (hc : CallR X (.builtin id) r) (hg : Gl X x) (hm : X.mg x = none) (hv : bootBuiltins x = some (.builtin id)) (ha : PA X (e :: es) t) (hn : x ≠ "__name__" := by decide) (hdb : (x == ("__debug__" : Str)) = false := by decide)
    (he : starEach (e :: es) X.env = (false, eval e X.env) :: starEach es X.env := by rfl) (hpl : (backTo pos (starEach es X.env)).any (·.1) = false := by rfl) : PE X (.Call (.Name x p) (e :: es) [] pos) (tCB r t) := by
  refine ⟨?_⟩
  intro pins s σ H Q I h
  refine wpAny_Call_Name_kw (ld_blt I hg hm hv ?_ hn hdb)
  exact PyProof.Rows.callWith_builtin1 (thn (ha pos pins s σ H _ I h) fun us s1 ⟨vs, H1, I1, r1, q1⟩ => hc pins s1 σ H1 vs us Q I1 r1 q1) he hpl

theorem pe_callTy (hc : CallR X (.type T) r) (hg : Gl X x) (hm : X.mg x = none) (hv : bootBuiltins x = some (.type T)) (ha : PA X (e :: es) t) (hn : x ≠ "__name__" := by decide) (hdb : (x == ("__debug__" : Str)) = false := by decide)
    (he : starEach (e :: es) X.env = (false, eval e X.env) :: starEach es X.env := by rfl) (hpl : (backTo pos (starEach es X.env)).any (·.1) = false := by rfl) : PE X (.Call (.Name x p) (e :: es) [] pos) (tCB r t) := by
  refine ⟨?_⟩
  intro pins s σ H Q I h
  refine wpAny_Call_Name_kw (ld_blt I hg hm hv ?_ hn hdb)
  exact PyProof.Rows.callWith_type1 (thn (ha pos pins s σ H _ I h) fun us s1 ⟨vs, H1, I1, r1, q1⟩ => hc pins s1 σ H1 vs us Q I1 r1 q1) he hpl

end
end L2

namespace HT
open PySem PyProof.Rows

section
open PySem.SeqAt
open PySem.AutoSeq1 (wpAny_loadPart')
open PySem.MeetsSeq PySem.MeetsSeq2 PySem.MeetsSeq3

end

section
variable {prog : Program} {w : World} {A : Around} {E : Value → Shared → Prop} {s : Shared}

def sIx (n d : Nat) : Option Int → Nat
  | none => d
  | some v => if v < 0 then (v + (n : Int)).toNat else min v.toNat n
end
end HT

namespace L2
open PySem PySem.Spec PyProof.Rows

abbrev TO := St → Hp → (Option Int → Hp → Prop) → Prop

def PO (X : Cx) (e : Option Expr) (t : TO) : Prop :=
  ∀ (pins : List (Addr × Obj)) (s : Shared) (σ : St) (H : Hp) (Q : Option Int → Hp → Prop), Inv X pins σ H s → t σ H Q →
    wpAny (model X.prog X.w) X.A (evalPart e X.env) (fun u s' => ∃ o H', Inv X pins σ H' s' ∧ IsPart u o ∧ Q o H') X.xe s
def tNoPart : TO := fun _ H Q => Q none H
def tPart (t : TE) : TO := fun σ H Q => t σ H fun x H1 => ∃ i, x = .int i ∧ Q (some i) H1

section
variable {X : Cx} {e : Expr} {te : TE} {lo hi : Option Expr} {tl th : TO} {pos p2 : Pos}

theorem po_none : PO X none tNoPart := by
  intro pins s σ H Q I h
  rw [evalPart_none]
  exact wpAny_pure ⟨none, H, I, .none, h⟩
theorem po_some (h : PE X e te) : PO X (some e) (tPart te) := by
  intro pins s σ H Q I hw
  rw [evalPart_some]
  refine thn (h pins s σ H _ I hw) fun u s1 ⟨x, H1, I1, r1, q1⟩ => ?_
  obtain ⟨i, rfl, q⟩ := q1
  obtain ⟨t, rfl⟩ := r1
  exact ⟨some i, H1, I1, .int i t, q⟩

def SlR (X : Cx) (r : V → Option Int → Option Int → Hp → VK → Prop) : Prop :=
  ∀ (pins : List (Addr × Obj)) (s : Shared) (σ : St) (H : Hp) (x : V) (v vl vu : Value) (lo hi : Option Int) (sl : Addr) (Q : VK), Inv X pins σ H s → RelV x v → s.heap.IsSliceOf sl vl vu .none → IsPart vl lo → IsPart vu hi → r x lo hi H Q →
    ∃ T id, typeLookup (.type T) "__getitem__" = pure (some (.builtin id)) ∧ s.TypeIs v T ∧ wpAny (model X.prog X.w) X.A (getItem v (.ref sl)) (EP X pins σ Q) X.xe s
theorem SlR.or {r r' : V → Option Int → Option Int → Hp → VK → Prop} (h : SlR X r) (h' : SlR X r') : SlR X (fun x lo hi H Q => r x lo hi H Q ∨ r' x lo hi H Q) := by
  intro pins s σ H x v vl vu lo hi sl Q I rx hs pl pu q
  rcases q with q | q
  · exact h pins s σ H x v vl vu lo hi sl Q I rx hs pl pu q
  · exact h' pins s σ H x v vl vu lo hi sl Q I rx hs pl pu q
def tSl (r : V → Option Int → Option Int → Hp → VK → Prop) (te : TE) (tl th : TO) : TE := fun σ H Q => te σ H fun x H1 => tl σ H1 fun l H2 => th σ H2 fun u H3 => r x l u H3 Q

theorem pe_slice {r : V → Option Int → Option Int → Hp → VK → Prop} (hr : SlR X r) (he : PE X e te) (hl : PO X lo tl) (hu : PO X hi th) : PE X (.Subscript e (.Slice lo hi none p2) pos) (tSl r te tl th) := by
  refine ⟨?_⟩
  intro pins s σ H Q I h
  refine Subscript_ (thn (he pins s σ H _ I h) fun v s1 ⟨x, H1, I1, r1, q1⟩ => ?_)
  refine wpAny_Slice (thn (hl pins s1 σ H1 _ I1 q1) fun vl s2 ⟨l, H2, I2, pl, q2⟩ => thn (hu pins s2 σ H2 _ I2 q2) fun vu s3 ⟨u, H3, I3, pu, q3⟩ => ?_)
  rw [evalPart_none]
  refine wpAny_pure ?_
  have I4 : Inv X pins σ H3 { s3 with heap := s3.heap.push { cls := .type "slice", data := .fields #[vl, vu, .none] } } := I3.kept (t' := s3.toks) fun b ob q => Heap.get?_push_of_some _ q
  obtain ⟨T, id, hT, ht, hg⟩ := hr pins { s3 with heap := s3.heap.push { cls := .type "slice", data := .fields #[vl, vu, .none] } } σ H3 x v vl vu l u s3.heap.objs.size Q I4 r1 (Heap.IsSliceOf.new ..) pl pu q3
  show wpAny (model X.prog X.w) X.A (subscriptTail e (.Slice lo hi none p2) v (.ref s3.heap.objs.size)) (EP X pins σ Q) X.xe { s3 with heap := s3.heap.push { cls := .type "slice", data := .fields #[vl, vu, .none] } }
  exact tail_any (ops := [.ref s3.heap.objs.size, v]) ht hT hg (by with_unfolding_all rfl)

theorem Vals.nil_iff {xs : List V} {us : List Value} (r : Vals xs us) : us = [] ↔ xs = [] := by
  cases r with
  | nil => simp
  | cons _ _ => simp
end
end L2

namespace L2
open PySem PySem.Spec PyProof.Rows

def ixN (n : Nat) (i : Int) : Option Nat := if 0 ≤ i then (if i < n then some i.toNat else none) else if -(n : Int) ≤ i then some (i + n).toNat else none
def atI {α : Type} (xs : List α) (i : Int) : Option α := (ixN xs.length i).bind fun j => xs[j]?
theorem ixN_seq {n : Nat} {i : Int} {j : Nat} (h : ixN n i = some j) : seqIndex? i n = some j ∧ j < n ∧ -(n : Int) ≤ i ∧ i < n := by
  unfold ixN at h
  by_cases h0 : 0 ≤ i
  · rw [if_pos h0] at h
    by_cases h1 : i < n
    · rw [if_pos h1] at h
      have e : i.toNat = j := Option.some.inj h
      exact ⟨by rw [seqIndex_of h0 h1, e], by omega, by omega, h1⟩
    · rw [if_neg h1] at h; cases h
  · rw [if_neg h0] at h
    by_cases h1 : -(n : Int) ≤ i
    · rw [if_pos h1] at h
      have e : (i + n).toNat = j := Option.some.inj h
      exact ⟨by rw [seqIndex_neg (by omega) h1, e], by omega, h1, by omega⟩
    · rw [if_neg h1] at h; cases h
theorem atI_get {α : Type} {xs : List α} {i : Int} {v : α} (h : atI xs i = some v) : ∃ j, seqIndex? i xs.length = some j ∧ xs[j]? = some v ∧ j < xs.length ∧ -(xs.length : Int) ≤ i ∧ i < xs.length := by
  unfold atI at h
  cases e : ixN xs.length i with
  | none => rw [e] at h; cases h
  | some j =>
    rw [e] at h
    obtain ⟨h1, h2, h3, h4⟩ := ixN_seq e
    exact ⟨j, h1, h, h2, h3, h4⟩
theorem atI_nat {α : Type} {xs : List α} {j : Nat} {v : α} (h : xs[j]? = some v) : atI xs (j : Int) = some v := by
  have hj : j < xs.length := (List.getElem?_eq_some_iff.mp h).1
  have e : ixN xs.length (j : Int) = some j := by
    unfold ixN
    rw [if_pos (by omega), if_pos (by omega)]; simp
  unfold atI; rw [e]; exact h
def PlainIx (b : Expr) : Prop := ∀ o i, subscripted b false o i = operate [o, i] (getItem o i)

def IxR (X : Cx) (r : R2) : Prop :=
  ∀ (value slice : Expr) (pins : List (Addr × Obj)) (s : Shared) (σ : St) (H : Hp) (x y : V) (v u : Value) (Q : VK), Inv X pins σ H s → RelV x v → RelV y u → r x y H Q →
    subscripted slice false v u = operate [v, u] (getItem v u) → wpAny (model X.prog X.w) X.A (subscriptTail value slice v u) (EP X pins σ Q) X.xe s

def MtR (X : Cx) (id : String) (r : V → List V → Hp → VK → Prop) : Prop :=
  ∀ (pins : List (Addr × Obj)) (s : Shared) (σ : St) (H : Hp) (x : V) (xs : List V) (v : Value) (us : List Value) (Q : VK), Inv X pins σ H s → RelV x v → Vals xs us → r x xs H Q →
    wpAny (model X.prog X.w) X.A (call (.builtin id) (v :: us)) (EP X pins σ Q) X.xe s
section
variable {X : Cx} {a b : Expr} {ta tb : TE} {pos : Pos}
theorem IxR.or {r r' : R2} (h : IxR X r) (h' : IxR X r') : IxR X (fun x y H Q => r x y H Q ∨ r' x y H Q) := by
  intro value slice pins s σ H x y v u Q I rx ry q hs
  rcases q with q | q
  · exact h value slice pins s σ H x y v u Q I rx ry q hs
  · exact h' value slice pins s σ H x y v u Q I rx ry q hs
theorem MtR.or {id : String} {r r' : V → List V → Hp → VK → Prop} (h : MtR X id r) (h' : MtR X id r') : MtR X id (fun x xs H Q => r x xs H Q ∨ r' x xs H Q) := by
  intro pins s σ H x xs v us Q I rx rs q
  rcases q with q | q
  · exact h pins s σ H x xs v us Q I rx rs q
  · exact h' pins s σ H x xs v us Q I rx rs q

theorem pe_ix {r : R2} (hr : IxR X r) (ha : PE X a ta) (hb : PE X b tb) (hs : PlainIx b) : PE X (.Subscript a b pos) (tOp r ta tb) := by
  refine ⟨?_⟩
  intro pins s σ H Q I h
  exact Subscript_ (binT ha hb I h fun v u s2 x y H2 I2 rx ry q => hr a b pins s2 σ H2 x y v u Q I2 rx ry q (hs _ _))

def rIxL (K : PySem.W.Frag) : R2 := fun x y H Q => ∃ p xs i v, x = .ref p ∧ y = .int i ∧ SqL K H p xs ∧ atI xs i = some v ∧ Q v H
def rIxT (K : PySem.W.Frag) : R2 := fun x y H Q => ∃ p xs i v, x = .ref p ∧ y = .int i ∧ SqT K H p xs ∧ atI xs i = some v ∧ Q v H
def rIxS : R2 := fun x y H Q => ∃ z i c, x = .str z ∧ y = .int i ∧ z.length ≤ sizeLine ∧ atI z.cps.toList i = some c ∧ Q (.str ⟨#[c]⟩) H
theorem ix_list : IxR X (rIxL X.K) := by
  intro value slice pins s σ H x y v u Q I rx ry h hs
  obtain ⟨p, xs, i, z, rfl, rfl, hq, he, q⟩ := h
  cases rx
  obtain ⟨t, rfl⟩ := ry
  obtain ⟨its, r, pl, hz⟩ := I.list hq
  obtain ⟨j, h1, h2, h3, h4, h5⟩ := atI_get he
  obtain ⟨w, ew, rw'⟩ := r.get h2
  have hl := r.length
  have hn := line63
  have fin : EP X pins σ Q w s := ⟨z, H, I, rw', q⟩
  by_cases h0 : 0 ≤ i
  · have hj : i.toNat = j := by
      rw [seqIndex_of h0 h5] at h1
      exact Option.some.inj h1
    exact item_listR pl.isList h0 (by omega) (by rw [hj]; simpa using ew) fin hs
  · have hj : (i + (its.toArray.size : Int)).toNat = j := by
      rw [seqIndex_neg (by omega) h4] at h1
      rw [List.size_toArray, ← hl]
      exact Option.some.inj h1
    exact subscriptTail_builtinR (x := w) pl.isList.typeIs slot_list_getitem.lookup
      (wpAny_getItem_list_neg (Q := fun r s' => r = w ∧ EP X pins σ Q r s') pl.isList (by omega) (by rw [List.size_toArray] <;> omega) (by omega) (by rw [hj]; simpa using ew) ⟨rfl, fin⟩) hs
theorem ix_tup : IxR X (rIxT X.K) := by
  intro value slice pins s σ H x y v u Q I rx ry h hs
  obtain ⟨p, xs, i, z, rfl, rfl, hq, he, q⟩ := h
  cases rx
  obtain ⟨t, rfl⟩ := ry
  obtain ⟨its, r, pl, hz⟩ := I.tuple hq
  obtain ⟨j, h1, h2, h3, h4, h5⟩ := atI_get he
  obtain ⟨w, ew, rw'⟩ := r.get h2
  have hl := r.length
  have hn := line63
  have fin : EP X pins σ Q w s := ⟨z, H, I, rw', q⟩
  exact subscriptTail_builtinR (x := w) pl.typeIs slot_tuple_getitem.lookup
    (getItem_tuple (j := j) (Q := fun r s' => r = w ∧ EP X pins σ Q r s') pl (by omega) (by omega) (by rw [List.size_toArray, ← hl]; exact h1) (by simpa using ew) ⟨rfl, fin⟩) hs
theorem ix_str : IxR X rIxS := by
  intro value slice pins s σ H x y v u Q I rx ry h hs
  obtain ⟨z, i, c, rfl, rfl, hz, he, q⟩ := h
  obtain ⟨t, rfl⟩ := rx
  obtain ⟨t', rfl⟩ := ry
  obtain ⟨j, h1, h2, h3, h4, h5⟩ := atI_get he
  have hl : z.cps.toList.length = z.length := by simp [Str.length]
  rw [hl] at h1 h4 h5
  have hn := line63
  exact tail_any (typeIs_str s z t) slot_str_getitem.lookup (getItem_str (c := c) (by
    have e1 : decide (i < -(2 ^ 63 : Int)) = false := decide_eq_false (by omega)
    have e2 : decide (i ≥ 2 ^ 63) = false := decide_eq_false (by omega)
    rw [e1, e2, Bool.or_false]) (by rw [h1]; simpa using h2) ⟨.str ⟨#[c]⟩, H, I.tok _, ⟨_, rfl⟩, q⟩) hs

def rIx (K : PySem.W.Frag) : R2 := fun x y H Q => rIxL K x y H Q ∨ rIxT K x y H Q ∨ rIxS x y H Q
theorem ix_seq : IxR X (rIx X.K) := ix_list.or (ix_tup.or ix_str)

theorem mapSeq_set (its : List Value) (n j : Nat) (u : Value) : Obj.mapSeq (·.setIfInBounds j u) { cls := .type "list", data := .seq its.toArray n } = { cls := .type "list", data := .seq (its.set j u).toArray n } := by
  simp [Obj.mapSeq]
theorem Inv.lst {pins : List (Addr × Obj)} {σ : St} {H : Hp} {s : Shared} {p : Addr} {xs : List V} (I : Inv X pins σ H s) (h : H p = some (.lst xs)) :
    ∃ (its : List Value) (n : Nat), Vals xs its ∧ s.heap.get? p = some { cls := .type "list", data := .seq its.toArray n } ∧ xs.length ≤ sizeLine := by
  obtain ⟨z, its, n, r, e⟩ := I.hok p _ h
  exact ⟨its, n, r, e, z⟩

theorem Inv.lstUpd {pins : List (Addr × Obj)} {σ : St} {H : Hp} {s : Shared} {p : Addr} {xs ys : List V} {its its' : List Value} {n n' : Nat} {f : Obj → Obj} (I : Inv X pins σ H s) (h : H p = some (.lst xs))
    (ho : s.heap.get? p = some { cls := .type "list", data := .seq its.toArray n }) (hf : f { cls := .type "list", data := .seq its.toArray n } = { cls := .type "list", data := .seq its'.toArray n' }) (r : Vals ys its') (hz : ys.length ≤ sizeLine) (t : Nat) :
    Inv X pins σ (upd H p (.lst ys)) { s with heap := s.heap.update p f, toks := t } := by
  have e : (s.heap.update p f).get? p = some { cls := .type "list", data := .seq its'.toArray n' } := by
    rw [Heap.get?_update_self f ho (by rw [hf] <;> rfl), hf]
  refine I.write (x := p) (e := p) (by rw [h]; trivial) (.inl rfl) (fun b u hb q => (Heap.get?_update_other _ _ (Ne.symm hb)).trans q) ⟨_, e⟩ ?_
  exact ⟨hz, its', n', r, e⟩
def rSetL : V → V → V → Hp → (Hp → Prop) → Prop := fun o i v H Q => ∃ p xs k j, o = .ref p ∧ i = .int k ∧ H p = some (.lst xs) ∧ ixN xs.length k = some j ∧ Q (upd H p (.lst (xs.set j v)))
theorem set_list : PSet X rSetL := by
  intro pins s σ H o i v ov iv u Q I ro ri rv h
  obtain ⟨p, xs, k, j, rfl, rfl, hp, hj, q⟩ := h
  cases ro
  obtain ⟨t, rfl⟩ := ri
  obtain ⟨its, n, r, ho, hz⟩ := I.lst hp
  obtain ⟨h1, h2, h3, h4⟩ := ixN_seq hj
  have hl := r.length
  have hn := line63
  have I' : Inv X pins σ (upd H p (.lst (xs.set j v))) { s with heap := s.heap.update p (Obj.mapSeq (·.setIfInBounds j u)) } :=
    I.lstUpd hp ho (mapSeq_set its n j u) (r.set rv j) (by rw [List.length_set]; exact hz) s.toks
  by_cases h0 : 0 ≤ k
  · have hk : k.toNat = j := by
      rw [seqIndex_of h0 h4] at h1
      exact Option.some.inj h1
    exact PySem.W.ki_setAt ho h0 (by omega) (by rw [List.size_toArray, ← hl]; exact h4) (by rw [hk]; exact ⟨_, I', q⟩)
  · have hk : (k + (its.toArray.size : Int)).toNat = j := by
      rw [seqIndex_neg (by omega) h3] at h1
      rw [List.size_toArray, ← hl]
      exact Option.some.inj h1
    exact PySem.W.ki_setBack ho (by omega) (by rw [List.size_toArray, ← hl]; exact h3) (by omega) (by rw [hk]; exact ⟨_, I', q⟩)

theorem call_len_seq : CallR X (.builtin "len") (fun xs H Q => ∃ p ys, xs = [.ref p] ∧ (SqL X.K H p ys ∨ SqT X.K H p ys) ∧ Q (.int ys.length) H) := by
  intro pins s σ H xs us Q I r h
  obtain ⟨p, ys, rfl, hq, q⟩ := h
  obtain ⟨u, rfl, rx⟩ := vals1 r
  cases rx
  have hn := line63
  rcases hq with hq | hq
  · obtain ⟨its, r', pl, hz⟩ := I.list hq
    have hlen := r'.length
    exact Calls.call_len_list pl.isList (by simp only [List.size_toArray] <;> omega) ⟨.int ys.length, H, I.tok _, ⟨s.toks + 1, by rw [List.size_toArray, hlen]⟩, q⟩
  · obtain ⟨its, r', pl, hz⟩ := I.tuple hq
    have hlen := r'.length
    exact len_tuple pl (by simp only [List.size_toArray] <;> omega) ⟨.int ys.length, H, I.tok _, ⟨s.toks + 1, by rw [List.size_toArray, hlen]⟩, q⟩
theorem CallR.or {f : Value} {r r' : List V → Hp → VK → Prop} (h : CallR X f r) (h' : CallR X f r') : CallR X f (fun xs H Q => r xs H Q ∨ r' xs H Q) := by
  intro pins s σ H xs us Q I rs q
  rcases q with q | q
  · exact h pins s σ H xs us Q I rs q
  · exact h' pins s σ H xs us Q I rs q
theorem call_tuple_of : CallR X (.type "tuple") (fun xs H Q => ∃ p ys, xs = [.ref p] ∧ ((SqL X.K H p ys ∧ ∀ l, H l = none → Q (.ref l) (upd H l (.tup ys))) ∨ (SqT X.K H p ys ∧ Q (.ref p) H))) := by
  intro pins s σ H xs us Q I r h
  obtain ⟨p, ys, rfl, h⟩ := h
  obtain ⟨u, rfl, rx⟩ := vals1 r
  cases rx
  rcases h with ⟨hq, q⟩ | ⟨hq, q⟩
  · obtain ⟨its, r', pl, hz⟩ := I.list hq
    have hlen := r'.length
    refine call_tuple_list pl.isList (fun h' kp => ?_) (by simp only [List.size_toArray] <;> omega)
    have I1 : Inv X pins σ H { s with heap := h' } := I.kept (t' := s.toks) kp
    have I2 : Inv X pins σ (upd H h'.objs.size (.tup ys)) { s with heap := h'.push { cls := .type "tuple", data := .seq its.toArray } } :=
      I1.laid (t' := s.toks) (fun b o e => Heap.get?_push_of_some _ e) (Nat.le_refl _) (show ObjOk X.prog X.w _ _ _ (.tup ys) from ⟨hz, its, r', TupB.new _ _⟩)
    exact ⟨.ref h'.objs.size, _, I2, rfl, q _ (I1.hok.fresh (Nat.le_refl _))⟩
  · obtain ⟨its, r', pl, hz⟩ := I.tuple hq
    exact call_tuple_same pl ⟨.ref p, H, I, rfl, q⟩

def tyV (K : PySem.W.Frag) (T : String) (x : V) (H : Hp) : Prop := match x with
  | .str _ => T = "str"
  | .int _ => T = "int"
  | .ref p => (T = "list" ∧ ∃ xs, SqL K H p xs) ∨ (T = "tuple" ∧ ((∃ o, K.lookup p = some o ∧ o.cls = .type "tuple" ∧ o.dict = none) ∨ ∃ xs, H p = some (.tup xs))) ∨
      (T = "dict" ∧ ((∃ kvs, H p = some (.dK kvs)) ∨ ∃ kvs, H p = some (.dT kvs))) ∨ (T = "set" ∧ ∃ S n, H p = some (.set S n))
  | _ => False
theorem tyV_is {pins : List (Addr × Obj)} {σ : St} {H : Hp} {s : Shared} {T : String} {x : V} {v : Value} (I : Inv X pins σ H s) (r : RelV x v) (ty : tyV X.K T x H) :
    s.TypeIs v T ∧ ∀ a, v = .ref a → ∃ ob, s.heap.get? a = some ob ∧ ob.dict = none := by
  cases x with
  | str z =>
    obtain ⟨t, rfl⟩ := r
    cases (show T = "str" from ty)
    exact ⟨typeIs_str s z t, fun _ e => nomatch e⟩
  | int i =>
    obtain ⟨t, rfl⟩ := r
    cases (show T = "int" from ty)
    exact ⟨typeIs_int s i t, fun _ e => nomatch e⟩
  | ref p =>
    cases r
    rcases ty with ⟨rfl, xs, hq⟩ | ⟨rfl, ⟨o, hk, hc, hd⟩ | ⟨xs, hk⟩⟩ | ⟨rfl, hk⟩ | ⟨rfl, S, n, hk⟩
    · obtain ⟨its, _, pl, _⟩ := I.list hq
      refine ⟨pl.isList.typeIs, fun a e => ?_⟩
      cases e
      obtain ⟨o, n, e, c, hd, _⟩ := pl
      exact ⟨o, e, hd⟩
    · refine ⟨⟨o, I.kIn p o hk, hc⟩, fun a e => ?_⟩
      cases e
      exact ⟨o, I.kIn _ o hk, hd⟩
    · obtain ⟨_, its, _, o, e, c, n, d, hd⟩ := I.hok p _ hk
      refine ⟨⟨o, e, c⟩, fun a e2 => ?_⟩
      cases e2
      exact ⟨o, e, hd⟩
    · have z : ∃ o, s.heap.get? p = some o ∧ o.ExactDict := by
        rcases hk with ⟨kvs, hk⟩ | ⟨kvs, hk⟩
        · obtain ⟨_, _, _, _, o, _, _, e, ex, _⟩ := I.hok p _ hk
          exact ⟨o, e, ex⟩
        · obtain ⟨_, _, _, _, o, _, _, e, ex, _⟩ := I.hok p _ hk
          exact ⟨o, e, ex⟩
      obtain ⟨o, e, ex⟩ := z
      refine ⟨⟨o, e, ex.1⟩, fun a e2 => ?_⟩
      cases e2
      exact ⟨o, e, ex.2.1⟩
    · obtain ⟨o, _, _, _, e, ex, _⟩ := I.hok p _ hk
      refine ⟨⟨o, e, ex.1⟩, fun a e2 => ?_⟩
      cases e2
      exact ⟨o, e, ex.2.1⟩
  | _ => exact False.elim ty
def tBM (K : PySem.W.Frag) (T : String) (r : V → List V → Hp → VK → Prop) (to : TE) (t : TA) : TE := fun σ H Q => to σ H fun x H1 => tyV K T x H1 ∧ t σ H1 fun xs H2 => r x xs H2 Q
variable {o e : Expr} {es : List Expr} {to : TE} {t : TA} {name : Str} {apos cpos : Pos} {T id : String} {r : V → List V → Hp → VK → Prop}
theorem pe_bm (pa : PlainAttrs T) (slot : Slot T name id) (hty : typeOf (.builtin id) = pure (.type "method_descriptor")) (hm : MtR X id r) (ho : PE X o to) (ha : PA X (e :: es) t)
    (hbase : attributeBase o name X.env (eval o X.env) = eval o X.env := by rfl)
    (hfew : ((backTo cpos (starEach (e :: es) X.env)).all (fun x => !x.1) && (backToKw cpos (keywordEach [] X.env)).all (fun x => x.1.isSome)
      && decide ((e :: es).length + ([] : List Keyword).length + (if ([] : List Keyword).isEmpty then 0 else 1) < 30)) = true := by rfl)
    (hline : (apos.endLine == cpos.line) = true := by rfl) (hs : starEach (e :: es) X.env = (false, eval e X.env) :: starEach es X.env := by rfl) (hplain : (backTo cpos (starEach es X.env)).any (·.1) = false := by rfl) :
    PE X (.Call (.Attribute o name apos) (e :: es) [] cpos) (tBM X.K T r to t) := by
  refine ⟨?_⟩
  intro pins s σ H Q I h
  refine wpAny_Call_method_late hbase hfew hline rfl (thn (ho pins s σ H _ I h) fun v s1 ⟨x, H1, I1, r1, ty, q1⟩ => ?_)
  obtain ⟨h1, h2⟩ := tyV_is I1 r1 ty
  refine ⟨T, id, pa, slot, hty, h1, h2, ?_⟩
  have hA := ha cpos pins s1 σ H1 _ I1 q1
  rw [hs] at hA ⊢
  refine Calls.callWith_builtin (by show (false || (backTo cpos (starEach es X.env)).any (·.1)) = false; rw [hplain] <;> rfl) (Calls.evalArgs_plain ?_)
  exact thn hA fun us s2 ⟨vs, H2, I2, r2, q2⟩ => hm pins s2 σ H2 x vs v us Q I2 r1 r2 q2

end
end L2

namespace L2
open PySem PySem.Spec PyProof.Rows

def MtM (X : Cx) (id : String) (r : V → List V → Hp → VK → Prop) : Prop :=
  ∀ (pins : List (Addr × Obj)) (s : Shared) (σ : St) (H : Hp) (x : V) (xs : List V) (v : Value) (us : List Value) (Q : VK), Inv X pins σ H s → RelV x v → Vals xs us → r x xs H Q →
    wpAny (model X.prog X.w) X.A (call (.builtin id) (v :: us)) (EP X pins σ Q) X.xe s

theorem Vals.one : ∀ {x : V} {us : List Value}, Vals [x] us → ∃ u, us = [u] ∧ RelV x u
  | _, _, .cons r .nil => ⟨_, rfl, r⟩
theorem Vals.zero : ∀ {us : List Value}, Vals [] us → us = []
  | _, .nil => rfl
theorem Vals.dropLast {xs : List V} {us : List Value} (h : Vals xs us) : Vals xs.dropLast us.dropLast := by
  induction h with
  | nil => exact .nil
  | cons r t ih =>
    cases t with
    | nil => exact .nil
    | cons q t' => exact .cons r ih
theorem Vals.eraseIdx : ∀ {xs : List V} {us : List Value} (i : Nat), Vals xs us → Vals (xs.eraseIdx i) (us.eraseIdx i)
  | _, _, _, .nil => .nil
  | _, _, 0, .cons _ t => t
  | _, _, i + 1, .cons r t => .cons r (Vals.eraseIdx i t)
theorem Vals.reverse {xs : List V} {us : List Value} (h : Vals xs us) : Vals xs.reverse us.reverse := by
  induction h with
  | nil => exact .nil
  | cons r t ih => rw [List.reverse_cons, List.reverse_cons]; exact Vals.append ih (.cons r .nil)
theorem Vals.rep {xs : List V} {us : List Value} (h : Vals xs us) : ∀ k : Nat, Vals (List.replicate k xs).flatten (List.replicate k us).flatten
  | 0 => .nil
  | k + 1 => by
    rw [List.replicate_succ, List.replicate_succ, List.flatten_cons, List.flatten_cons]
    exact Vals.append h (Vals.rep h k)
theorem len_erase {α : Type} : ∀ (l : List α) (i : Nat), (l.eraseIdx i).length ≤ l.length
  | [], _ => Nat.le_refl _
  | _ :: _, 0 => Nat.le_succ _
  | _ :: r, i + 1 => Nat.succ_le_succ (len_erase r i)
theorem foldl_rep (its : List Value) : ∀ (k : Nat) (acc : List Value),
    List.foldl (fun x1 x2 => x1 ++ x2) acc.toArray (List.replicate k its.toArray) = (acc ++ (List.replicate k its).flatten).toArray
  | 0, acc => by simp
  | k + 1, acc => by
    have e : acc.toArray ++ its.toArray = (acc ++ its).toArray := by simp
    have e2 : (acc ++ its) ++ (List.replicate k its).flatten = acc ++ (List.replicate (k + 1) its).flatten := by
      rw [List.replicate_succ, List.flatten_cons, List.append_assoc]
    rw [← e2, ← foldl_rep its k (acc ++ its), ← e, List.replicate_succ, List.foldl_cons]

section
variable {X : Cx} {pins : List (Addr × Obj)} {σ : St} {H : Hp} {s : Shared} {l b : Addr} {xs ys zs : List V}

theorem Inv.lset {its its' : List Value} {n : Nat} {f : Array Value → Array Value} {t' : Nat} (I : Inv X pins σ H s) (hH : H l = some (.lst xs))
    (e : s.heap.get? l = some { cls := .type "list", data := .seq its.toArray n }) (hf : f its.toArray = its'.toArray) (hv : Vals ys its') (hz : ys.length ≤ sizeLine) :
    Inv X pins σ (upd H l (.lst ys)) { s with heap := s.heap.update l (Obj.mapSeq f), toks := t' } := by
  have q := PySem.IsL.update e f
  rw [hf] at q
  refine I.write (x := l) (e := l) (by rw [hH]; exact trivial) (.inl rfl) (fun b' u hb hu => (Heap.get?_update_other s.heap (Obj.mapSeq f) (Ne.symm hb)).trans hu) ⟨_, q⟩ ?_
  exact ⟨hz, its', _, hv, q⟩
theorem Inv.lnew {its : List Value} {t' : Nat} (I : Inv X pins σ H s) (hv : Vals ys its) (hz : ys.length ≤ sizeLine) :
    Inv X pins σ (upd H s.heap.objs.size (.lst ys)) { s with heap := s.heap.push { cls := .type "list", data := .seq its.toArray }, toks := t' } :=
  I.laid (fun _ _ q => Heap.get?_push_of_some _ q) (Nat.le_refl _) ⟨hz, its, 0, hv, Heap.get?_push_size _ rfl⟩
theorem Inv.fresh (I : Inv X pins σ H s) : H s.heap.objs.size = none := I.hok.fresh (Nat.le_refl _)
theorem Inv.lstM (I : Inv X pins σ H s) (hH : H l = some (.lst xs)) : xs.length ≤ sizeLine ∧ ∃ (its : List Value) (n : Nat), Vals xs its ∧ xs.length = its.length ∧ s.heap.get? l = some { cls := .type "list", data := .seq its.toArray n } := by
  obtain ⟨z, its, n, r, e⟩ := I.hok l _ hH
  exact ⟨z, its, n, r, r.length, e⟩

theorem notLongL {n : Nat} (h : n ≤ sizeLine) : Builtin.List.listTooLong n = false := by
  unfold Builtin.List.listTooLong
  exact decide_eq_false (by omega)
end

section
variable {X : Cx}

def rAppend : V → List V → Hp → VK → Prop := fun x vs H Q => ∃ l xs y, x = .ref l ∧ vs = [y] ∧ H l = some (.lst xs) ∧ xs.length < sizeLine ∧ Q .non (upd H l (.lst (xs ++ [y])))
theorem mt_append : MtM X "list.append" rAppend := by
  intro pins s σ H x vs v us Q I rx rv h
  obtain ⟨l, xs, y, rfl, rfl, hH, hz, q⟩ := h
  cases rx
  obtain ⟨u, rfl, ru⟩ := rv.one
  obtain ⟨z, its, n, r, hl, e⟩ := I.lstM hH
  refine call_meets F.slot_list_append ⟨_, e, rfl⟩ F.entry_list_append (F.args_list_append_2 _ _) (PySem.list_append l its.toArray n u (by rw [List.size_toArray]; omega)) ⟨e, ?_⟩
  refine ⟨.non, _, I.lset (its' := its ++ [u]) hH e (by simp) (r.append (.cons ru .nil)) ?_, rfl, q⟩
  rw [List.length_append, List.length_singleton]
  omega

def rPopAt : V → List V → Hp → VK → Prop := fun x vs H Q => ∃ l xs i k y, x = .ref l ∧ vs = [.int i] ∧ H l = some (.lst xs) ∧ -(2 ^ 63) ≤ i ∧ i < 2 ^ 63 ∧ seqIndex? i xs.length = some k ∧ xs[k]? = some y ∧ Q y (upd H l (.lst (xs.eraseIdx k)))
theorem mt_popAt : MtM X "list.pop" rPopAt := by
  intro pins s σ H x vs v us Q I rx rv h
  obtain ⟨l, xs, i, k, y, rfl, rfl, hH, h1, h2, hk, hy, q⟩ := h
  cases rx
  obtain ⟨u, rfl, ru⟩ := rv.one
  obtain ⟨t, rfl⟩ := ru
  obtain ⟨z, its, n, r, hl, e⟩ := I.lstM hH
  obtain ⟨w, hw, rw'⟩ := r.get hy
  refine call_meets F.slot_list_pop ⟨_, e, rfl⟩ F.entry_list_pop (F.args_list_pop_2 _ _)
    (MeetsSeq.list_pop_at l its.toArray n i t k w (fitsIndex_both h1 h2) (by rw [List.size_toArray, ← hl]; exact hk) (by rw [← Array.getElem?_toList]; exact hw) (by rw [List.size_toArray]; omega)) ⟨e, ?_⟩
  refine ⟨y, _, I.lset (its' := its.eraseIdx k) hH e ?_ (r.eraseIdx k) ?_, rw', q⟩
  · show its.toArray.eraseIdxIfInBounds k = (its.eraseIdx k).toArray
    rw [List.eraseIdxIfInBounds_toArray]
  · have := len_erase xs k
    omega

def rRep : R2 := fun x y H Q => ∃ l k xs, x = .ref l ∧ y = .int k ∧ H l = some (.lst xs) ∧ -(2 ^ 63) ≤ k ∧ k < 2 ^ 63 ∧ xs.length * k.toNat ≤ sizeLine ∧
  ∀ p, H p = none → Q (.ref p) (upd H p (.lst (List.replicate k.toNat xs).flatten))
theorem len_rep {α : Type} (xs : List α) (k : Nat) : (List.replicate k xs).flatten.length = k * xs.length := by
  induction k with
  | zero => simp
  | succ k ih => rw [List.replicate_succ, List.flatten_cons, List.length_append, ih, Nat.succ_mul, Nat.add_comm]
theorem op_rep : OpR X (binaryOp .Mult) rRep := by
  intro pins s σ H x y v u Q I rx ry h
  obtain ⟨l, k, xs, rfl, rfl, hH, h1, h2, hz, q⟩ := h
  cases rx
  obtain ⟨t, rfl⟩ := ry
  obtain ⟨z, its, n, r, hl, e⟩ := I.lstM hH
  have hlen : its.toArray.size * k.toNat ≤ sizeLine := by rw [List.size_toArray, ← hl]; exact hz
  have hcap : ¬ its.toArray.size * k.toNat > (2 ^ 63 - 1) / 8 := by
    have : (sizeLine : Nat) ≤ (2 ^ 63 - 1) / 8 := by decide
    omega
  have hfit : ¬ (!Builtin.List.listFitsIndex k) = true := by
    rw [fitsIndex_both h1 h2]
    exact Bool.false_ne_true
  have hlong : ¬ Builtin.List.listTooLong (its.toArray.size * k.toNat) = true := by
    rw [notLongL hlen]
    exact Bool.false_ne_true
  have hnew : List.foldl (fun x1 x2 => x1 ++ x2) #[] (List.replicate (if its.toArray.isEmpty = true then 0 else k.toNat) its.toArray) = (List.replicate k.toNat its).flatten.toArray := by
    have f0 : ∀ m : Nat, List.foldl (fun x1 x2 => x1 ++ x2) #[] (List.replicate m its.toArray) = (List.replicate m its).flatten.toArray := fun m => by
      have := foldl_rep its m []
      rw [List.nil_append] at this
      exact this
    rw [f0]
    cases its with
    | nil => simp
    | cons a r' => rw [if_neg (by simp)]
  refine wpAny_binaryOp_repeat_ref (T := "list") (U := "int") (by decide) ⟨_, e, rfl⟩ (fun s' => typeIs_int s' k t) noFill_list_mul F.fills_int_mul F.slot_int_rmul repeat_list F.slot_int_index.lookup
    (call_meets F.slot_int_rmul (typeIs_int s k t) F.entry_int_rmul (F.args_int_rmul_2 _ _) (int___rmul___int_list k t l its.toArray n)
      ⟨e, rfl, ⟨_, e, rfl⟩, call_meets F.slot_list_mul ⟨_, e, rfl⟩ F.entry_list_mul (F.args_list_mul_2 _ _) (AutoListH.list___mul___list_int_3 l its.toArray n k t hfit hcap hlong) ⟨e, ?_⟩⟩)
  rw [hnew]
  exact ⟨.ref _, _, I.lnew (t' := s.toks) (r.rep k.toNat) (by rw [len_rep, Nat.mul_comm]; exact hz), rfl, q _ I.fresh⟩

end

section
variable {prog : Program} {w : World} {A : Around} {E : Value → Shared → Prop} {s : Shared}
end

section
variable {X : Cx}

end
end L2

namespace Att
open PySem PySem.W PySem.Calls PyProof.Rows

theorem ints_of_wellAll {P : Params} {h : Heap} : ∀ (ns : List Int) (vs : List Value), WellAll P h vs (ns.map WData.int) → IntsAre vs ns := by
  intro ns
  induction ns with
  | nil =>
    intro vs w
    rw [List.map_nil] at w
    cases w
    exact .nil
  | cons n ns ih =>
    intro vs w
    rw [List.map_cons] at w
    cases w with
    | cons a b =>
      cases a
      exact .cons _ _ (ih _ b)

theorem script_of {l : OpenLaw} {n : Nat} (hn : l.most = some n) {P : Params} {h : Heap} {args : List WData} {vals : List Value}
    (hpre : l.row.toRowW.claim.pre args = true) (hwl : WellAll P h vals args) :
    ∃ a vs ns, vals = [Value.ref a] ∧ args = [WData.list (ns.map WData.int)] ∧ h.get? a = some { cls := .type "list", data := .seq vs.toArray } ∧ IntsAre vs ns ∧ ns.length ≤ n := by
  have hsh : WShape.hasAll [] args [.list .int] = true := (pre_splitW hpre).1
  have hc : l.pre.holds [] { args := args } = true := (pre_splitW hpre).2
  obtain ⟨d, r, rfl, h1, h2⟩ := hasAllW_cons hsh
  obtain rfl := hasAllW_nil h2
  obtain ⟨xs, rfl, h3⟩ := hasW_list h1
  obtain ⟨ns, rfl⟩ := items_int h3
  have hlen : ns.length ≤ n := by
    unfold OpenLaw.pre at hc
    have h4 : (WTm.not (.lt (.lit (.int (n : Int))) (.len (.arg 0)))).holds [] { args := [.list (ns.map .int)] } = true := by
      have h4 := (holds_andW hc).1
      rw [hn] at h4
      exact h4
    have h5 := condW_of h4 (w_not (w_lt w_lit (w_len_list (w_arg rfl))))
    rw [List.length_map] at h5
    refine Nat.le_of_not_lt fun q => ?_
    have q' : (n : Int) < ((ns.length : Nat) : Int) := by omega
    first
      | (rw [decide_eq_true q'] at h5; exact absurd h5 (by decide))
      | (simp at h5; omega)
  cases hwl with
  | cons w1 w2 =>
    cases w2
    cases w1 with
    | list ho hall => exact ⟨_, _, ns, rfl, rfl, ho, ints_of_wellAll ns _ hall, hlen⟩

theorem post_true (l : OpenLaw) (args : List WData) : l.row.toRowW.claim.post args (.bool true) args = true :=
  postW_of (r := l.row.toRowW) (X := (true == true))
    (show WShape.has [] (.bool true) .bool = true by first | rfl | decide | simp [WShape.has, WShape.arms, WShape.armsAll])
    (show (WTm.eq .res (.lit (.bool true))).value [] { args := args, res := some (.bool true), after := args } = some (.bool (true == true)) from w_eq_bool (w_res rfl) w_lit) rfl

theorem attach_call {l : OpenLaw} {n : Nat} {q : Program} {loose : List Str} {XP : (Str → Option Value) → Heap → Prop} {YP : World → Heap → Prop} {d : DefRec}
    (hn : l.most = some n) (hdf : d.params.defaults = [])
    (call : ∀ (w : World) (s₀ s₁ : Shared) (mg mb : Str → Option Value) (fa : Addr) (o : Obj) (pm cd doc : Value) (a : Addr) (vs : List Value) (ns : List Int),
      Ground q loose [] XP w s₀ mg mb s₁.heap → YP w s₁.heap →
      s₁.heap.get? fa = some o → o.data = .func (docDef d.name d.params d.body d.scope pm cd doc) → s₁.heap.CodeRec cd d.name → mg d.name = some (.ref fa) →
      s₁.heap.get? a = some { cls := .type "list", data := .seq vs.toArray } → IntsAre vs ns → ns.length ≤ n → s₁.gens = #[] →
      codeAny (model l.prog w) callerA (.call (.ref fa) ⟨[.ref a], []⟩) (fun r s' => r = .ok (.ret (.bool true)) ∧ OldK s₁.heap s'.heap ∧ s'.os = s₁.os ∧ AllBare s'.gens) s₁) :
    WalkO q loose XP YP l.row.toRowW d [] (fun f vs => PySem.call f vs) := by
  intro w s₀ s₁ mg mb G Y fa o pm cd doc dV kV ho hd hcd hD hmg hg args vals as hpre hlay hrd hwl hlo
  obtain rfl : dV = .none := Dflts.none hD hdf
  obtain rfl : kV = .none := Dflts.noKw hD
  obtain ⟨a, vs, ns, rfl, rfl, hobj, hints, hlen⟩ := script_of hn hpre hwl
  refine enter_call (codeAny_mono (call w s₀ s₁ mg mb fa o pm cd doc a vs ns G Y ho (fd_plain hd) hcd hmg hobj hints hlen hg) fun r s' hq => ?_)
  obtain ⟨rfl, h2, h3, h4⟩ := hq
  exact ⟨.inl ⟨.bool true, .bool true, [], rfl, fun _ => rfl, .bool true, post_true l _, fun _ => ⟨List.Pairwise.nil, fun _ hm => (nomatch hm)⟩⟩, h2, h3, h4⟩

section
variable {prog : Program} {w : World} {A : Around} {E : Value → Shared → Prop} {s : Shared} {K : Frag}

end
end Att

namespace L2
open PySem PySem.Spec PyProof.Rows

theorem vals_ints : ∀ {vs : List Value} {ns : List Int}, IntsAre vs ns → Vals (ns.map V.int) vs
  | _, _, .nil => .nil
  | _, _, .cons n t h => .cons ⟨t, rfl⟩ (vals_ints h)

end L2

namespace L2
open PySem PySem.Spec PyProof.Rows

end L2

namespace L2
open PySem PySem.Spec PyProof.Rows

def defArgs (s : Stmt) : Arguments := match s with
  | .FunctionDef _ a _ _ _ _ _ _ _ _ => a
  | _ => { posonlyargs := [], args := [], vararg := none, kwonlyargs := [], kw_defaults := [], kwarg := none, defaults := [] }
def defBody (s : Stmt) : List Stmt := match s with
  | .FunctionDef _ _ b _ _ _ _ _ _ _ => b
  | _ => []
def defScope (s : Stmt) : Scope := match s with
  | .FunctionDef _ _ _ _ _ _ sc _ _ _ => sc
  | _ => { kind := .function, names := [], isGenerator := false, isCoroutine := false }

abbrev CX0 : CXT := fun _ _ _ _ _ _ => False
abbrev E0 : XK := fun _ _ _ => False
theorem pass0 {X : Cx} : Passes CX0 X E0 := fun _ _ _ _ _ _ _ h => h.elim

structure Fun (K : PySem.W.Frag) (x qual : Str) (st : Stmt) (f : Addr) (fd : FuncData) : Prop where
  ex : ∃ (oc : Value) (od : Option Addr) (kV doc pm : Value) (an : Option Addr) (cdv ct : Value) (osl : Array (Option Value)),
    fd = PySem.W.fnOf x qual (defArgs st) (defBody st) (defScope st) .none kV doc pm an cdv ct ∧ K.lookup f = some ⟨oc, od, .func fd, osl⟩ ∧ PySem.W.codeIn K cdv qual = true
  kp : PySem.W.keepIn K (.ref f) = true
section
variable {P : Program} {w : World} {K : PySem.W.Frag} {mg : Str → Option Value} {base : Heap}

theorem Fun.ok {x qual : Str} {st : Stmt} {f : Addr} {fd : FuncData} {N ps : List Str} {k : Nat} {sp : Sp} (F : Fun K x qual st f fd) (S : FnScope N ps (defScope st)) (len : ∀ vs H Q E, sp vs H Q E → vs.length = ps.length)
    (hbody : ∀ (cdv : Value) (A : Around) (outer : List Env) (s : Shared) (H : Hp) (vs : List V) (Q : VK) (E : XK), Room k (A.deeper (envOfC qual (defScope st) s.heap.objs.size f cdv)) → sp vs H Q E →
      ∃ t, PSs (cxOf CX0 P w K mg base N qual (defScope st) f cdv A outer s H E).nox (defBody st) t ∧ t { nx := fun _ H' => Q .non H', rt := Q } (start N vs) H) : FnOk P w K mg base CX0 (k + 1) f fd ps sp := by
  obtain ⟨oc, od, kV, doc, pm, an, cdv, ct, osl, rfl, lk, hcd⟩ := F.ex
  refine fn_of lk hcd S len fun A outer s H vs Q E hr hsp => ?_
  obtain ⟨t, h, q⟩ := hbody cdv A outer s H vs Q E hr hsp
  exact ⟨t, h.nox, q⟩

theorem Fun.binds {x qual : Str} {st : Stmt} {f : Addr} {fd : FuncData} {ps : List Str} (F : Fun K x qual st f fd)
    (h : ∀ (kV doc pm : Value) (an : Option Addr) (cdv ct : Value) (us : List Value), us.length = ps.length → bindArgs (PySem.W.fnOf x qual (defArgs st) (defBody st) (defScope st) .none kV doc pm an cdv ct) ⟨us, []⟩ = pure (ps.zip us)) : Binds K fd ps [] := by
  obtain ⟨oc, od, kV, doc, pm, an, cdv, ct, osl, rfl, lk, hcd⟩ := F.ex
  exact .all (h kV doc pm an cdv ct)
theorem fun_mk {x qual : Str} {st : Stmt} {f : Addr} {oc : Value} {od an : Option Addr} {osl : Array (Option Value)} {kV doc pm cdv ct : Value} (l : K.lookup f = some ⟨oc, od, .func (PySem.W.fnOf x qual (defArgs st) (defBody st) (defScope st) .none kV doc pm an cdv ct), osl⟩)
    (c : PySem.W.codeIn K cdv qual = true) (k : PySem.W.keepIn K (.ref f) = true) : Fun K x qual st f (PySem.W.fnOf x qual (defArgs st) (defBody st) (defScope st) .none kV doc pm an cdv ct) := ⟨⟨oc, od, kV, doc, pm, an, cdv, ct, osl, rfl, l, c⟩, k⟩
end
section
variable {X : Cx}
theorem pv (i : Nat) {x : Str} {pos : Pos} (hN : X.N[i]? = some x := by rfl) (hv : Vis X.env.scope x := by first | exact Or.inl rfl | exact Or.inr (Or.inl rfl) | exact Or.inr (Or.inr rfl)) (hd : (x == ("__debug__" : Str)) = false := by decide)
    (hcd : (x == ("__classdict__" : Str)) = false := by decide) : PE X (.Name x pos) (tVar i) := pe_var hN hv hd hcd
end

theorem ite2 {c A B : Prop} [Decidable c] (h1 : c → A) (h2 : ¬ c → B) : if c then A else B := by
  by_cases h : c
  · rw [if_pos h]
    exact h1 h
  · rw [if_neg h]
    exact h2 h
def Same (H H' : Hp) : Prop := ∀ b o, H b = some o → H' b = some o
theorem Same.refl (H : Hp) : Same H H := fun _ _ h => h
theorem Same.trans {H H1 H2 : Hp} (a : Same H H1) (b : Same H1 H2) : Same H H2 := fun c o h => b c o (a c o h)
theorem Same.free {H H' : Hp} (e : Same H H') {l : Addr} (h : H' l = Option.none) : H l = Option.none := by
  cases q : H l with
  | none => rfl
  | some o =>
    rw [e l o q] at h
    cases h
theorem Same.seq {K : PySem.W.Frag} {H H' : Hp} {a : Addr} {xs : List V} (e : Same H H') (h : SqL K H a xs) : SqL K H' a xs := by
  rcases h with (h | ⟨o, h⟩) | h
  · exact .inl (.inl (e _ _ h))
  · exact .inl (.inr ⟨o, e _ _ h⟩)
  · exact .inr h

end L2

set_option Elab.async false
set_option maxRecDepth 100000
set_option maxHeartbeats 4000000
namespace L2
open PySem PySem.Spec PyProof.Rows

theorem closure_go {env : Env} : ∀ (names : List (Str × NameKind)) (acc : List (Str × Addr)), (∀ n, (n, NameKind.free) ∈ names → ∃ c, env.cells.lookup n = some c) →
    (∀ n c, acc.lookup n = some c → env.cells.lookup n = some c) →
    ∃ cl, (forIn names acc fun x r => if (x.2 == NameKind.free) = true then (do let a ← cellOf env x.1; pure (ForInStep.yield ((x.1, a) :: r))) else pure (ForInStep.yield r) : Sem (List (Str × Addr))) = pure cl ∧
      (∀ n c, cl.lookup n = some c → env.cells.lookup n = some c) ∧ (∀ n, (n, NameKind.free) ∈ names → ∃ c, cl.lookup n = some c) ∧ (∀ n c, acc.lookup n = some c → ∃ c', cl.lookup n = some c')
  | [], acc, _, h2 => ⟨acc, rfl, h2, fun n h => by simp at h, fun n c h => ⟨c, h⟩⟩
  | (n, k) :: r, acc, h1, h2 => by
    rw [List.forIn_cons]
    cases hk : (k == NameKind.free) with
    | true =>
      have ek : k = NameKind.free := by simpa using hk
      subst ek
      obtain ⟨c, hc⟩ := h1 n List.mem_cons_self
      have e1 : cellOf env n = pure c := by unfold cellOf; rw [hc]
      obtain ⟨cl, e, a1, a2, a3⟩ := closure_go r ((n, c) :: acc) (fun m hm => h1 m (List.mem_cons_of_mem _ hm)) (fun m c' hm => by
        rw [List.lookup_cons] at hm
        cases hb : m == n with
        | true =>
          rw [hb] at hm
          have e2 : m = n := by simpa using hb
          rw [e2, hc]; exact hm
        | false => rw [hb] at hm; exact h2 m c' hm)
      refine ⟨cl, ?_, a1, fun m hm => ?_, fun m c' hm => ?_⟩
      · simp only [if_true, e1]
        exact e
      · rcases List.mem_cons.mp hm with z | z
        · cases z
          exact a3 n c (by rw [List.lookup_cons]; simp)
        · exact a2 m z
      · by_cases hb : m = n
        · subst hb
          exact a3 m c (by rw [List.lookup_cons]; simp)
        · exact a3 m c' (by
            rw [List.lookup_cons]
            have : (m == n) = false := by simpa using hb
            rw [this]; exact hm)
    | false =>
      obtain ⟨cl, e, a1, a2, a3⟩ := closure_go r acc (fun m hm => h1 m (List.mem_cons_of_mem _ hm)) h2
      refine ⟨cl, ?_, a1, fun m hm => ?_, a3⟩
      · simp only [Bool.false_eq_true, if_false]
        exact e
      · rcases List.mem_cons.mp hm with z | z
        · cases z; simp at hk
        · exact a2 m z
theorem closure_ok {scope : Scope} {env : Env} (h : ∀ n, (n, NameKind.free) ∈ scope.names → ∃ c, env.cells.lookup n = some c) :
    ∃ cl, closureFor scope env = pure cl ∧ (∀ n c, cl.lookup n = some c → env.cells.lookup n = some c) ∧ (∀ n, (n, NameKind.free) ∈ scope.names → ∃ c, cl.lookup n = some c) := by
  obtain ⟨cl, e, a1, a2, _⟩ := closure_go (env := env) scope.names [] h (fun n c hn => by simp at hn)
  refine ⟨cl, ?_, a1, a2⟩
  simp only [closureFor]
  rw [e]
  rfl

def cxBlock (X : Cx) (N' : List Str) (env' : Env) (A' : Around) (stack' : List Env) (s : Shared) (H : Hp) (ex : List Addr) : Cx :=
  { X with N := N', s₀ := s, H₀ := H, env := env', A := A', outer := X.stack, stack := stack', ex := ex, fn := fun _ => false, pn := [], xe := fun _ _ => False }

theorem inv_block {X : Cx} {pins : List (Addr × Obj)} {σ σ' : St} {H H' : Hp} {s : Shared} {N' : List Str} {env' : Env} {A' : Around} {stack' : List Env} {ex : List Addr} {h1 : Heap} {m0 : Str → Option Value} {g' : Array GenState} {tk : Nat}
    (I : Inv X pins σ H s) (hkind : env'.scope.kind = .function) (hglob : env'.globals = X.env.globals) (hblt : env'.builtins = X.env.builtins)
    (hcl : ∀ n c, env'.cells.lookup n = some c → X.env.cells.lookup n = some c)
    (hhas : ∀ x, (env'.kindOf x = some .cell ∨ env'.kindOf x = some .free) → ∃ c, env'.cells.lookup x = some c)
    (hh : X.calm = true → A'.handled = none) (hfr : A'.frames = some stack') (hstk : stack' = X.stack ∨ (stack' = env' :: X.stack ∧ env'.frame = some env'.locals))
    (hC : s.heap.objs.size ≤ env'.locals) (hf : ∀ b ∈ ex, FpOk X pins H b) (hexC : ∀ b ∈ ex, b < s.heap.objs.size)
    (hun : Un (frs X.stack) ex H H' s.heap h1) (hok : HOk X.prog X.w H' h1) (hCn : H' env'.locals = none) (hkeep : ∀ b o, s.heap.get? b = some o → h1.get? b = some o) (hns : h1.Ns env'.locals m0)
    (hnames : ∀ (i : Nat) (x : Str) (v : V), N'[i]? = some x → σ'[i]? = some (some v) → Vis env'.scope x → (env'.kindOf x = some .cell ∨ env'.kindOf x = some .free) ∧ Vis X.env.scope x ∧ (X.env.kindOf x = some .cell ∨ X.env.kindOf x = some .free) ∧ ∃ j : Nat, X.N[j]? = some x ∧ σ[j]? = some (some v))
    (hlen : σ'.length = N'.length) (hg : Gn s.gens.size g') : Inv (cxBlock X N' env' A' stack' s H ex) [] σ' H' { s with heap := h1, gens := g', toks := tk } := by
  have exX : ∀ b ∈ ex, ∀ x c, X.env.cells.lookup x = some c → c ≠ b := fun b hb => (hf b hb).2.2.2.2.1
  refine ⟨⟨I.ok.mod, hkind, hglob.trans I.ok.glob, hblt.trans I.ok.blt, hC, fun x y c a b => I.ok.inj x y c (hcl x c a) (hcl y c b), hhas, fun _ _ z => (nomatch z), hh, hfr, hstk, fun b hb => ⟨Nat.ne_of_lt (Nat.lt_of_lt_of_le (hexC b hb) hC), fun x c e => exX b hb x c (hcl x c e)⟩,
      I.bs, Nat.le_trans I.ok.bsz I.sz, fun b o e hb => ?_, fun b hb z => ?_, I.stack, I.stkFree⟩, rfl, hg, hun, ⟨m0, hns, fun i x v e1 e2 e3 => ?_⟩, fun x c e => ?_, hCn, fun x c e => ?_, fun p hp => absurd (show p ∈ ([] : List (Addr × Obj)) from hp) (by simp), hok, hlen⟩
  · rcases (hf b hb).2.2.2.1 with z | z
    · exact I.ok.noex b o e z
    · exact absurd (Nat.lt_of_lt_of_le (Heap.lt_size e) (Nat.le_trans I.ok.bsz z)) (Nat.lt_irrefl _)
  · rcases List.mem_cons.mp (I.stkSub b z) with q | q
    · exact (hf b hb).2.1 q
    · exact (hf b hb).2.2.1 q
  · obtain ⟨k1, vx, k2, j, n1, n2⟩ := hnames i x v e1 e2 e3
    obtain ⟨m, hn, hl⟩ := I.loc
    obtain ⟨u, r, l⟩ := hl j x v n1 n2 vx
    refine ⟨u, r, .inr ⟨k1, ?_⟩⟩
    obtain ⟨c', ec'⟩ := hhas x k1
    rcases l with ⟨kl, _⟩ | ⟨_, c, ec, z⟩
    · rcases k2 with q | q <;> (rw [kl] at q; cases q)
    · have : c' = c := Option.some.inj ((hcl x c' ec').symm.trans ec)
      subst this
      exact ⟨c', ec', z.keeps hkeep⟩
  · obtain ⟨v, z⟩ := I.cell x c (hcl x c e)
    exact ⟨v, z.keeps hkeep⟩
  · obtain ⟨v, o, ho, hd⟩ := I.cell x c (hcl x c e)
    exact hun.free c o ho (I.freeC x c (hcl x c e)) fun z => exX c z x c (hcl x c e) rfl

theorem lookup_map2 {c : Str → NameKind → NameKind} : ∀ {names : List (Str × NameKind)} {x : Str}, (names.map fun (p : Str × NameKind) => (p.1, c p.1 p.2)).lookup x = (names.lookup x).map (c x)
  | [], x => rfl
  | (n, k') :: r, x => by
    have ih := @lookup_map2 c r x
    rw [List.map_cons, List.lookup_cons, List.lookup_cons]
    cases hx : x == n with
    | true =>
      have e : x = n := by simpa using hx
      subst e
      rfl
    | false => exact ih
theorem relabel_kind {scope : Scope} {env : Env} (x : Str) : (relabel scope env).names.lookup x = (scope.names.lookup x).map fun k => if (k == .free && env.scope.kind == .function && env.kindOf x == some .cell) = true then .cell else k := by
  have e : (relabel scope env).names = scope.names.map fun p => (p.1, (fun n k => if (k == NameKind.free && env.scope.kind == .function && env.kindOf n == some .cell) = true then NameKind.cell else k) p.1 p.2) := by
    unfold relabel
    dsimp only
    congr 1
    funext p
    obtain ⟨n, k⟩ := p
    dsimp only
    split <;> rfl
  rw [e]
  exact lookup_map2 (c := fun n k => if (k == NameKind.free && env.scope.kind == .function && env.kindOf n == some .cell) = true then NameKind.cell else k)

def BlockOk (N : List Str) (sc scope : Scope) (N' : List Str) (tn : Nat) (idx : List Nat) : Prop :=
  scope.kind = .function ∧ (∀ y ∈ scope.names, y.2 ≠ .cell ∧ (y.2 = .local → scope.names.lookup y.1 = some .local) ∧ (y.2 = .free → sc.names.lookup y.1 = some .cell ∨ sc.names.lookup y.1 = some .free)) ∧
    N'.length = tn + idx.length ∧ ∀ p ∈ idx.zip (N'.drop tn), N[p.1]? = some p.2 ∧ scope.names.lookup p.2 = some .free
instance (N : List Str) (sc scope : Scope) (N' : List Str) (tn : Nat) (idx : List Nat) : Decidable (BlockOk N sc scope N' tn idx) := by unfold BlockOk; infer_instance
def blockSt (tn : Nat) (idx : List Nat) (σ : St) : St := List.replicate tn none ++ idx.map fun i => (σ[i]?).join

theorem BlockOk.at {N : List Str} {sc scope : Scope} {N' : List Str} {tn : Nat} {idx : List Nat} (B : BlockOk N sc scope N' tn idx) {σ : St} {i : Nat} {x : Str} {v : V} (h1 : N'[i]? = some x) (h2 : (blockSt tn idx σ)[i]? = some (some v)) :
    scope.names.lookup x = some .free ∧ ∃ j : Nat, N[j]? = some x ∧ σ[j]? = some (some v) := by
  obtain ⟨_, _, b3, b4⟩ := B
  unfold blockSt at h2
  by_cases hi : i < tn
  · rw [List.getElem?_append_left (by simpa using hi), List.getElem?_replicate, if_pos hi] at h2
    cases h2
  · rw [List.getElem?_append_right (by simpa using hi), List.length_replicate, List.getElem?_map] at h2
    cases e : idx[i - tn]? with
    | none => rw [e] at h2; cases h2
    | some k =>
      rw [e] at h2
      have h3 : (σ[k]?).join = some v := Option.some.inj h2
      have e2 : (N'.drop tn)[i - tn]? = some x := by
        rw [List.getElem?_drop]
        have : tn + (i - tn) = i := by omega
        rw [this]; exact h1
      have m : (k, x) ∈ idx.zip (N'.drop tn) := by
        refine List.mem_of_getElem? (i := i - tn) ?_
        rw [List.getElem?_zip_eq_some]
        exact ⟨e, e2⟩
      obtain ⟨a, b⟩ := b4 _ m
      refine ⟨b, k, a, ?_⟩
      cases q : σ[k]? with
      | none => rw [q] at h3; cases h3
      | some w => rw [q] at h3; exact congrArg some h3
theorem BlockOk.len {N : List Str} {sc scope : Scope} {N' : List Str} {tn : Nat} {idx : List Nat} (B : BlockOk N sc scope N' tn idx) (σ : St) : (blockSt tn idx σ).length = N'.length := by
  rw [B.2.2.1]
  unfold blockSt
  simp
end L2

set_option Elab.async false
set_option maxRecDepth 100000
set_option maxHeartbeats 4000000
namespace L2
open PySem PySem.Spec PyProof.Rows
section
variable {X : Cx}

def PIf (X : Cx) (ifs : List Expr) (tt : TT) : Prop :=
  ∀ (pins : List (Addr × Obj)) (s : Shared) (σ : St) (H : Hp) (Q : Bool → Hp → Prop), Inv X pins σ H s → tt σ H Q →
    wpAny (model X.prog X.w) X.A (forIn ifs true fun c r => if r = true then do let ok ← isTrue c X.env (eval c X.env); pure (ForInStep.yield ok) else pure (ForInStep.yield r)) (TP X pins σ Q) X.xe s
def tNoIf : TT := fun _ H Q => Q true H
theorem pif_nil : PIf X [] tNoIf := fun _ _ _ H _ I h => wpAny_tests_nil ⟨H, I, h⟩
theorem pif_one {c : Expr} {tc : TT} (h : PT X c tc) : PIf X [c] tc := fun pins s σ H Q I q => wpAny_tests_one (h pins s σ H Q I q)

abbrev cxC (X : Cx) (N' : List Str) (scope : Scope) (cl : List (Str × Addr)) (C : Addr) (s : Shared) (H : Hp) (fp : List Addr) : Cx := cxBlock X N' (compEnvC scope cl C X.env) X.A X.stack s H fp
abbrev Blk (X : Cx) (N' : List Str) (scope : Scope) (P : Cx → Prop) : Prop := ∀ (cl : List (Str × Addr)) (C : Addr) (s : Shared) (H : Hp) (fp : List Addr), P (cxC X N' scope cl C s H fp)

def tTurn (J : It) (g : TG) (tt : TT) (te : TE) (D : Addr) (Q : VK) (W : Nat → Nat → St → Hp → Prop) : Prop := ∀ i m τ H, W i m τ H →
  (J.stop i H ∧ Q (.ref D) H) ∨ (J.go i H ∧ ∀ x H', J.yld i H x H' → g x τ H' fun τ2 H2 => tt τ2 H2 fun b H3 => if b = true then te τ2 H3 fun y H4 => ∃ ys m', H4 D = some (.lst ys) ∧ ys.length < sizeLine ∧ m' < m ∧ W (i + 1) m' τ2 (upd H4 D (.lst (ys ++ [y]))) else ∃ m', m' < m ∧ W (i + 1) m' τ2 H3)
def tComp (tn : Nat) (idx : List Nat) (wi : TI) (g : TG) (tt : TT) (te : TE) : TE := fun σ H Q => wi σ H fun J H1 => ∀ D, H1 D = none → ∃ W : Nat → Nat → St → Hp → Prop, (∃ m, W 0 m (blockSt tn idx σ) (upd H1 D (.lst []))) ∧ tTurn J g tt te D Q W

theorem comp_core {pins : List (Addr × Obj)} {σ : St} {H2 : Hp} {s2 : Shared} {tg elt iter : Expr} {ifs : List Expr} {scope : Scope} {pos : Pos} {N' : List Str} {tn : Nat} {idx : List Nat} {g : TG} {tt : TT} {te : TE} {it : Addr} {fp : List Addr} {tnn : Nat → Heap → Prop} {J : It}
    {cl : List (Str × Addr)} {E : Value → Shared → Prop} {RR : Value → Addr → Result → Shared → Prop} {Q : VK}
    (hc : X.calm = true) (B : BlockOk X.N X.env.scope scope N' tn idx)
    (hg : Blk X N' scope fun Y => PG Y tg g) (ht : Blk X N' scope fun Y => PIf Y ifs tt) (he : Blk X N' scope fun Y => PE Y elt te)
    (I : Inv X pins σ H2 s2) (T : Turn X.prog X.w X.K tg J fp it tnn) (st : tnn 0 s2.heap) (f2 : ∀ b ∈ fp, FpOk X pins H2 b)
    (hcl1 : ∀ n c, cl.lookup n = some c → X.env.cells.lookup n = some c) (hcl2 : ∀ n, (n, NameKind.free) ∈ scope.names → ∃ c, cl.lookup n = some c)
    (hq : ∀ D, H2 D = none → ∃ W : Nat → Nat → St → Hp → Prop, (∃ m, W 0 m (blockSt tn idx σ) (upd H2 D (.lst []))) ∧ tTurn J g tt te D Q W)
    (hRR : ∀ D C m s' H', Inv X pins σ H' s' → FpOk X pins H' C → s'.heap.Ns C m → Q (.ref D) H' → RR (.ref D) C (.ok .next) s') :
    wpAny (model X.prog X.w) X.A (newList []) (fun acc s₃ => wpAny (model X.prog X.w) X.A (newFunctionEnv scope X.env.globals cl [] X.env.qual none .none (some X.env)) (fun cenv s₄ =>
      codeAny (model X.prog X.w) X.A (.compStart (.ListComp elt [⟨tg, iter, ifs, 0⟩] scope pos) 0 (.ref it) acc { cenv with scope := relabel scope X.env }) (RR acc cenv.locals) s₄) E s₃) E s2 := by
  obtain ⟨b1, b2, b3, b4⟩ := id B
  refine wpAny_newObj_type (wpAny_newFunctionEnv (fun y hy => (b2 y hy).1) (by intro y hy; simp at hy) (fun h₁ hns₁ hsb₁ => ?_) b1)
  dsimp only at hns₁ hsb₁ ⊢
  generalize hG : s2.heap.push { cls := .type "list", dict := none, data := .seq ([] : List Value).toArray } = G at hns₁ hsb₁ ⊢
  have hC : G.objs.size = s2.heap.objs.size + 1 := by rw [← hG, Heap.size_push]
  have hDC : s2.heap.objs.size ≠ G.objs.size := by rw [hC]; exact Nat.ne_of_lt (Nat.lt_succ_self _)
  have hCle : s2.heap.objs.size ≤ G.objs.size := by rw [hC]; exact Nat.le_succ _
  have below : ∀ b, b < s2.heap.objs.size → b ≠ G.objs.size := fun b hb => by rw [hC]; exact Nat.ne_of_lt (Nat.lt_succ_of_lt hb)
  have old : ∀ b o, s2.heap.get? b = some o → h₁.get? b = some o := fun b o e => hsb₁.extBut b o (below b (Heap.lt_size e)) (Heap.get?_push_of_some _ (hG ▸ Heap.get?_push_of_some _ e))
  have hDo : h₁.get? s2.heap.objs.size = some { cls := .type "list", data := .seq ([] : List Value).toArray } := hsb₁.extBut _ _ hDC (Heap.get?_push_of_some _ (hG ▸ Heap.get?_push_size _ rfl))
  have hDn : H2 s2.heap.objs.size = none := I.hok.fresh (Nat.le_refl _)
  have hCn : upd H2 s2.heap.objs.size (.lst []) G.objs.size = none := by rw [upd_ne (Ne.symm hDC)]; exact I.hok.fresh hCle
  have hok1 : HOk X.prog X.w (upd H2 s2.heap.objs.size (.lst [])) h₁ := I.hok.laid old (Nat.le_refl _) ⟨Nat.zero_le _, [], 0, .nil, hDo⟩
  have fpo : ∀ b ∈ fp, b < s2.heap.objs.size := fun b hb => let ⟨o, e, _⟩ := T.obj _ _ st b hb; Heap.lt_size e
  obtain ⟨W, ⟨m0, w0⟩, turn⟩ := hq s2.heap.objs.size hDn
  have I1 : Inv (cxC X N' scope cl G.objs.size s2 H2 fp) [] (blockSt tn idx σ) (upd H2 s2.heap.objs.size (.lst [])) { s2 with heap := h₁, toks := s2.toks + ([] : List (Str × Value)).length } := by
    refine inv_block (g' := s2.gens) (m0 := fun x => ([] : List (Str × Value)).reverse.lookup x) I b1 rfl rfl hcl1 (fun x hx => ?_) (fun z => I.ok.hd z) I.ok.frames (.inl rfl) hCle f2 fpo (Un.laid old (Nat.le_refl _) hDn) hok1 hCn old hns₁ (fun i x v e1 e2 e3 => ?_) (B.len σ) I.bare.self
    · have hx' : (relabel scope X.env).names.lookup x = some .cell ∨ (relabel scope X.env).names.lookup x = some .free := hx
      rw [relabel_kind] at hx'
      cases q : scope.names.lookup x with
      | none => rw [q] at hx'; rcases hx' with z | z <;> cases z
      | some k0 =>
        have hm := PySem.mem_of_lookup q
        rw [q] at hx'
        by_cases hk : k0 = .free
        · subst hk; exact hcl2 x hm
        · have nk : (k0 == NameKind.free) = false := by simpa using hk
          have nc := (b2 _ hm).1
          simp only [Option.map_some, nk, Bool.false_and, Bool.false_eq_true, if_false] at hx'
          rcases hx' with z | z
          · exact absurd (Option.some.inj z) nc
          · exact absurd (Option.some.inj z) hk
    · obtain ⟨fr, j, e4, e5⟩ := B.at e1 e2
      have kx := (b2 _ (PySem.mem_of_lookup fr)).2.2 rfl
      refine ⟨?_, .inr kx, kx, j, e4, e5⟩
      show (relabel scope X.env).names.lookup x = some .cell ∨ (relabel scope X.env).names.lookup x = some .free
      rw [relabel_kind, fr]
      simp only [Option.map_some]
      split
      · exact .inl rfl
      · exact .inr rfl
  have stat : ∀ {H' : Hp}, (∀ b ∈ fp, H' b = none) → ∀ b ∈ fp, FpOk (cxC X N' scope cl G.objs.size s2 H2 fp) [] H' b := fun hn b hb => by
    refine ⟨hn b hb, below b (fpo b hb), fun z => ?_, .inl hb, fun x c e => (f2 b hb).2.2.2.2.1 x c (hcl1 x c e), fun p hp => absurd (show p ∈ ([] : List (Addr × Obj)) from hp) (by simp)⟩
    rcases List.mem_cons.mp (I.stkSub b z) with q | q
    · exact (f2 b hb).2.1 q
    · exact (f2 b hb).2.2.1 q
  have loop : ∀ s₃ : Shared, s₃ = { s2 with heap := h₁, toks := s2.toks + ([] : List (Str × Value)).length } →
      codeAny (model X.prog X.w) X.A (.compLoop (.ListComp elt [⟨tg, iter, ifs, 0⟩] scope pos) 0 (.ref it) (.ref s2.heap.objs.size) (compEnvC scope cl G.objs.size X.env))
        (RR (.ref s2.heap.objs.size) G.objs.size) s₃ := by
    rintro s₃ rfl
    refine codeAny_loop rfl (fun n s' => ∃ i τ H', Inv (cxC X N' scope cl G.objs.size s2 H2 fp) [] τ H' s' ∧ tnn i s'.heap ∧ (∀ b ∈ fp, H' b = none) ∧ W i n τ H') (fun n s hI => ?_) m0
      ⟨0, _, _, I1, T.keep _ _ _ st fun b _ o e => old b o e, fun b hb => by rw [upd_ne (Nat.ne_of_lt (fpo b hb))]; exact (f2 b hb).1, w0⟩
    show wpAny _ X.A ((compTurn (.ListComp elt [⟨tg, iter, ifs, 0⟩] scope pos) 0 (.ref it) (.ref s2.heap.objs.size) (compEnvC scope cl G.objs.size X.env)).onRaise (fun x => do noteFrame x (compEnvC scope cl G.objs.size X.env); theTreesLotGoes x)) _ _ s
    refine wpAny_noted ?_
    rw [compTurn_list]
    obtain ⟨i, τ, H3, I3, st3, fr3, w3⟩ := hI
    rcases turn i n τ H3 w3 with ⟨stop, qn⟩ | ⟨go, step⟩
    · refine wpAny_bind (wpAny_standAt (wpAny_bind (wpAny_mono (T.done (cxC X N' scope cl G.objs.size s2 H2 fp) rfl rfl rfl hc i [] s τ H3 (fun _ _ => False) I3 (stat fr3) st3 stop) (fun r s4 ⟨hr, I4⟩ => ?_) fun _ _ z => z.elim)))
      subst hr
      refine wpAny_pure ?_
      have J2 : Inv X pins σ H3 s4 := I.call' I4.os I4.base I4.hok I4.bare fun b hb => ⟨(f2 b hb).2.2.2.1, (f2 b hb).2.1, (f2 b hb).2.2.2.2.1, (f2 b hb).2.2.2.2.2⟩
      obtain ⟨mm, hm, _⟩ := I4.loc
      exact hRR _ _ mm s4 H3 J2 (I.fpOk hCle I4.free) hm qn
    · refine wpAny_bind (wpAny_standAt (wpAny_bind (wpAny_mono (T.item (cxC X N' scope cl G.objs.size s2 H2 fp) rfl rfl rfl hc i [] s τ H3 (fun _ _ => False) I3 (stat fr3) st3 go) (fun r s4 ⟨u, hr, h4⟩ => ?_) fun _ _ z => z.elim)))
      subst hr
      refine wpAny_bind (wpAny_mono h4 (fun _ s5 ⟨x, H5, I5, r5, y5, st5, fr5⟩ => ?_) fun _ _ z => z.elim)
      have I5' := I5.pinned (stat fr5) (T.obj _ _ st5)
      have again : ∀ {τ7 : St} {H7 : Hp} {s7 : Shared}, Inv (cxC X N' scope cl G.objs.size s2 H2 fp) ([] ++ pinsAt fp s5.heap) τ7 H7 s7 → (∃ m', m' < n ∧ W (i + 1) m' τ7 H7) →
          ∃ m, m < n ∧ ∃ i τ H', Inv (cxC X N' scope cl G.objs.size s2 H2 fp) [] τ H' s7 ∧ tnn i s7.heap ∧ (∀ b ∈ fp, H' b = none) ∧ W i m τ H' := fun {τ7 H7 s7} I7 n7 => by
        obtain ⟨m', hm, w7⟩ := n7
        refine ⟨m', hm, i + 1, τ7, H7, I7.unpinned, T.keep _ _ _ st5 fun b hb o e => (I7.pin (b, o) (List.mem_append_right _ (List.mem_append_right _ (mem_pinsAt hb e)))).1, fun b hb => ?_, w7⟩
        obtain ⟨o, e, d⟩ := T.obj _ _ st5 b hb
        exact (I7.pin (b, o) (List.mem_append_right _ (List.mem_append_right _ (mem_pinsAt hb e)))).2.1
      refine wpAny_bind (wpAny_mono (hg cl G.objs.size s2 H2 fp _ s5 τ H5 x u _ I5' r5 (step x H5 y5)) (fun _ s6 ⟨τ6, H6, I6, q6⟩ => ?_) fun _ _ z => z.elim)
      refine wpAny_bind (wpAny_mono (ht cl G.objs.size s2 H2 fp _ s6 τ6 H6 _ I6 q6) (fun ok s7 ⟨H7, I7, q7⟩ => ?_) fun _ _ z => z.elim)
      cases ok with
      | false => exact wpAny_pure ⟨rfl, again I7 q7⟩
      | true =>
        refine wpAny_bind (wpAny_bind (wpAny_mono (he cl G.objs.size s2 H2 fp _ s7 τ6 H7 _ I7 q7) (fun yv s8 ⟨y, H8, I8, r8, q8⟩ => ?_) fun _ _ z => z.elim))
        obtain ⟨ys, m', hD, hsz, hm', w8⟩ := q8
        refine wpAny_bind (wpAny_mono (mt_append (X := cxC X N' scope cl G.objs.size s2 H2 fp) _ s8 τ6 H8 (.ref s2.heap.objs.size) [y] (.ref s2.heap.objs.size) [yv] (fun v H9 => v = .non ∧ H9 = upd H8 s2.heap.objs.size (.lst (ys ++ [y]))) I8 rfl (.cons r8 .nil) ⟨_, ys, y, rfl, rfl, hD, hsz, rfl, rfl⟩) (fun rv s9 ⟨v9, H9, I9, _, _, e9⟩ => ?_) fun _ _ z => z.elim)
        subst e9
        exact wpAny_pure (wpAny_pure ⟨rfl, again I9 ⟨m', hm', w8⟩⟩)
  exact codeAny_compStart_list (loop _ rfl) (T.self _ 0 _ _ _ (T.keep _ _ _ st fun b _ o e => old b o e) (loop _ rfl))

variable {tg elt iter : Expr} {ifs : List Expr} {scope : Scope} {pos : Pos} {N' : List Str} {tn : Nat} {idx : List Nat} {wi : TI} {g : TG} {tt : TT} {te : TE}
theorem FpOk.turn {pins : List (Addr × Obj)} {σ : St} {H : Hp} {s : Shared} {C : Addr} {h' : Heap} (f : FpOk X pins H C) (I : Inv X pins σ H s) (hs : Heap.SameBut C s.heap h') : Inv X pins σ H { s with heap := h' } :=
  I.turned (t' := s.toks) (fun b o hb e => (hs.2 b hb).trans e) f.1 f.2.1 f.2.2.2.1 f.2.2.2.2.1 f.2.2.2.2.2

theorem pe_listcomp (hc : X.calm = true) (B : BlockOk X.N X.env.scope scope N' tn idx) (hi : PI X tg iter wi)
    (hg : Blk X N' scope fun Y => PG Y tg g) (ht : Blk X N' scope fun Y => PIf Y ifs tt) (he : Blk X N' scope fun Y => PE Y elt te)
    (hs : ∀ x, foldedSetIterable iter X.env x = pure x := by intro _; rfl) : PE X (.ListComp elt [⟨tg, iter, ifs, 0⟩] scope pos) (tComp tn idx wi g tt te) := by
  refine ⟨?_⟩
  intro pins s σ H Q I h
  obtain ⟨cl, hclos, hcl1, hcl2⟩ := closure_ok (scope := scope) (env := X.env) fun n hn => I.ok.has n ((B.2.1 _ hn).2.2 rfl)
  rw [eval_ListComp]
  refine wpAny_comprehension_free (use := none) rfl hs hclos B.1 (fun y hy => (B.2.1 y hy).2.1) (wpAny_mono (hi pins s σ H _ I h) (fun xv s1 h1 => wpAny_mono h1 (fun itv s2 h2 => ?_) fun _ _ z => z) fun _ _ z => z)
  obtain ⟨it, fp, tnn, J, H2, e, I2, T, st2, f2, q2⟩ := h2
  subst e
  refine comp_core (RR := fun acc C => compPost (model X.prog X.w) X.A X.xe none (EP X pins σ Q) acc C) hc B hg ht he I2 T st2 f2 hcl1 hcl2 q2 fun D C m s' H' J2 fC hm q => ?_
  exact ⟨m, hm, fun h' hs' => ⟨.ref D, H', fC.turn J2 hs', rfl, q⟩⟩

theorem ps_setcomp {i : Nat} {y : Str} {py spos : Pos} (hN : X.N.Nodup) (hi' : X.N[i]? = some y) (hy : X.env.scope.names.lookup y = some .local) (hc : X.calm = true) (B : BlockOk X.N X.env.scope scope N' tn idx) (hi : PI X tg iter wi)
    (hg : Blk X N' scope fun Y => PG Y tg g) (ht : Blk X N' scope fun Y => PIf Y ifs tt) (he : Blk X N' scope fun Y => PE Y elt te)
    (hsw : swapsWith (.ListComp elt [⟨tg, iter, ifs, 0⟩] scope pos) (some (.Name y py)) spos.line X.env = pure true := by rfl)
    (hs : ∀ x, foldedSetIterable iter X.env x = pure x := by intro _; rfl) : PS X (.Assign [.Name y py] (.ListComp elt [⟨tg, iter, ifs, 0⟩] scope pos) spos) (tAsg (tComp tn idx wi g tt te) (gName i)) := by
  refine ⟨?_⟩
  intro pins s σ H D I h
  obtain ⟨cl, hclos, hcl1, hcl2⟩ := closure_ok (scope := scope) (env := X.env) fun n hn => I.ok.has n ((B.2.1 _ hn).2.2 rfl)
  rw [exec_Assign_Name_used _ _ _ _ hsw]
  refine wpAny_bind (wpAny_standAt (wpAny_bind ?_))
  show wpAny _ X.A (do let _ ← comprehension (.ListComp elt [⟨tg, iter, ifs, 0⟩] scope pos) scope X.env _ (newList []) false (eval iter X.env) (some (assign (.Name y py) X.env))) _ _ s
  refine wpAny_bind (wpAny_mono (wpAny_comprehension_free (use := some (assign (.Name y py) X.env)) (Q := fun _ s' => SP X pins D .next s') rfl hs hclos B.1 (fun y hy => (B.2.1 y hy).2.1)
    (wpAny_mono (hi pins s σ H _ I h) (fun xv s1 h1 => wpAny_mono h1 (fun itv s2 h2 => ?_) fun _ _ z => z) fun _ _ z => z)) (fun _ s' hq => wpAny_pure (wpAny_pure hq)) fun _ _ z => z)
  obtain ⟨it, fp, tnn, J, H2, e, I2, T, st2, f2, q2⟩ := h2
  subst e
  refine comp_core (RR := fun acc C => compPost (model X.prog X.w) X.A X.xe (some (assign (.Name y py) X.env)) (fun _ s' => SP X pins D .next s') acc C) hc B hg ht he I2 T st2 f2 hcl1 hcl2 q2 fun E C m s' H' J2 fC hm q => ?_
  show wpAny _ X.A (assign (.Name y py) X.env (.ref E)) _ _ s'
  refine wpAny_assign_Name (store_ok2 J2 hN hi' (.inl hy) (v := .ref E) rfl (fun s3 J3 ⟨a, hsb, ha⟩ => ?_) (.inr hy))
  have hne : C ≠ a := by
    rcases ha with z | z
    · rw [z]; exact fC.2.1
    · exact fun w => fC.2.2.2.2.1 _ _ z w.symm
  exact ⟨m, hm.sameBut hsb hne, fun h' hs' => ⟨_, H', fC.turn J3 hs', q⟩⟩
end
end L2

set_option Elab.async false
set_option maxRecDepth 100000
set_option maxHeartbeats 4000000
namespace L2
open PySem PySem.Spec PyProof.Rows

def Tb (P : Addr) (H : Hp) : Prop := ∃ ps, H P = some (.tbl ps) ∧ TriplesOk ps.toList
section
variable {X : Cx} {pins : List (Addr × Obj)} {σ : St} {H : Hp} {s : Shared} {P : Addr} {ps more : Array Value} {h' : Heap}
theorem Inv.grown (I : Inv X pins σ H s) (hP : H P = some (.tbl ps)) (k : ∀ b o, b ≠ P → s.heap.get? b = some o → h'.get? b = some o) (n : h'.get? P = some { cls := .none, data := .fields (ps ++ more) }) (t' : Nat) :
    Inv X pins σ (upd H P (.tbl (ps ++ more))) { s with heap := h', toks := t' } := by
  have ne : ∀ b u, H b = some u → u ≠ .tbl ps → b ≠ P := fun b u e d => ne_of e hP d
  have nn : ∀ b, H b = none → b ≠ P := fun b e z => by rw [z, hP] at e; cases e
  refine I.un ⟨fun b o e q _ _ => k b o (nn b q) e, fun b o e q _ _ => ⟨o.slots, k b o (nn b q) e⟩, fun b o e q _ => by rw [upd_ne (nn b q)]; exact q, fun b o e _ => ?_, fun b xs e => by rw [upd_ne (ne b _ e (by intro z; cases z))]; exact e,
    fun b o u e => by rw [upd_ne (ne b _ e (by intro z; cases z))]; exact e, fun b qs e => ?_⟩ fun b u e => ?_
  · by_cases hb : b = P
    · subst hb; exact ⟨_, n⟩
    · exact ⟨o, k b o hb e⟩
  · by_cases hb : b = P
    · subst hb
      rw [hP] at e; cases e
      exact ⟨more, upd_same⟩
    · exact ⟨#[], by rw [upd_ne hb, e]; simp⟩
  · by_cases hb : b = P
    · subst hb
      rw [upd_same] at e; cases e
      exact n
    · rw [upd_ne hb] at e
      refine (I.hok b u e).stay (fun c v hc q => k c v ?_ q) (fun c q => ?_) fun c xs q => ?_
      · rcases hc with z | z
        · rw [z]; exact hb
        · exact ne c _ z (by intro w; cases w)
      · rw [upd_ne (ne c _ q (by intro w; cases w))]; exact q
      · rw [upd_ne (ne c _ q (by intro w; cases w))]; exact q
theorem wp_genexprCode {c : Addr} {pos : Pos} {qn : Str} {scope : Scope} {Q : Value → Shared → Prop} {A : Around} {E : Value → Shared → Prop} (I : Inv X pins σ H s) (hc : X.env.code = .ref c) (hd : PySem.W.CodeHd X.base c P) (hP : H P = some (.tbl ps)) (ht : TriplesOk ps.toList)
    (h : ∀ code ps' s', TriplesOk ps'.toList → Inv X pins σ (upd H P (.tbl ps')) s' → (∀ b o, b ≠ P → s.heap.get? b = some o → s'.heap.get? b = some o) → s'.gens = s.gens → Q code s') : wpAny (model X.prog X.w) A (genexprCode X.env pos qn scope) Q E s := by
  have hPo : s.heap.get? P = some (PySem.W.tabObj ps) := I.hok P _ hP
  have hd' := hd.keeps I.bk
  have ic := hd'.code hPo ht
  cases q : codeAmong pos ps.toList with
  | some c' =>
    refine wpAny_genexprCode_hit hc ic q (h c' ps s ht ?_ (fun _ _ _ e => e) rfl)
    have e : upd H P (.tbl ps) = H := by
      funext b
      by_cases hb : b = P
      · subst hb; rw [upd_same, hP]
      · rw [upd_ne hb]
    rw [e]; exact I
  | none =>
    refine wpAny_genexprCodeX hc ic (hd'.tab hPo) q fun c' h' tk ex h1 h2 ic' _ ta _ => ?_
    obtain ⟨_, hP'⟩ := ta
    have tr : TriplesOk (ps ++ #[rawInt pos.line, rawInt pos.col, Value.ref c']).toList := by
      rw [Array.toList_append]
      exact TriplesOk_snoc _ _ _ _ ht
    exact h _ _ _ tr (I.grown hP (fun b o hb e => ex b o hb e) hP' tk) (fun b o hb e => ex b o hb e) rfl
end

def Okay (s s'' : Shared) : Prop := s''.heap = s.heap ∧ s''.os = s.os ∧ Gn s.gens.size s''.gens
theorem Inv.okay {X : Cx} {pins : List (Addr × Obj)} {σ : St} {H : Hp} {s s'' : Shared} (I : Inv X pins σ H s) (o : Okay s s'') : Inv X pins σ H s'' := by
  obtain ⟨h, g, d, t, os⟩ := s
  obtain ⟨h', g', d', t', os'⟩ := s''
  obtain ⟨e1, e2, e3⟩ := o
  cases e1
  cases e2
  exact ⟨I.ok, I.os, I.bare.trans e3, I.base, I.loc, I.cell, I.free, I.freeC, I.pin, I.hok, I.len⟩

section
variable {Y : Cx} {A2 : Around} {tg elt iter : Expr} {ifs : List Expr} {scope : Scope} {pos : Pos} {it : Addr} {fp : List Addr} {tnn : Nat → Heap → Prop} {J : It} {g : TG} {tt : TT} {te : TE} {pp : List (Addr × Obj)} {R : GenEnd} {Yp : Protocol}

def tGen (J : It) (g : TG) (tt : TT) (te : TE) (stopAt : Bool) (Z : Bool → Hp → Prop) (W : Nat → Nat → St → Hp → Prop) : Prop := ∀ i m τ H, W i m τ H →
  (J.stop i H ∧ Z (!stopAt) H) ∨ (J.go i H ∧ ∀ x H', J.yld i H x H' → g x τ H' fun τ2 H2 => tt τ2 H2 fun b H3 => if b = true then te τ2 H3 fun y H4 => ∃ c, y = .bl c ∧ (if c = stopAt then Z stopAt H4 else ∃ m', m' < m ∧ W (i + 1) m' τ2 H4) else ∃ m', m' < m ∧ W (i + 1) m' τ2 H3)
theorem seg_loop (hA : Y.A = A2.over (.compLoop (.GeneratorExp elt [⟨tg, iter, ifs, 0⟩] scope pos) 0 (.ref it) .none Y.env) []) (hxe : Y.xe = fun _ _ => False) (hc : Y.calm = true) (hco : Y.env.scope.isCoroutine = false)
    (T : Turn Y.prog Y.w Y.K tg J fp it tnn) (hg : PG Y tg g) (ht : PIf Y ifs tt) (he : PE Y elt te) (stat : ∀ {H' : Hp}, (∀ b ∈ fp, H' b = none) → ∀ b ∈ fp, FpOk Y pp H' b)
    {W : Nat → Nat → St → Hp → Prop} {Z : Bool → Hp → Prop} {stopAt : Bool} (turn : tGen J g tt te stopAt Z W)
    (hR : ∀ n s₀ s₁ τ H, Inv Y pp τ H s₁ → Z (!stopAt) H → R n s₀ (.ok .next) s₁)
    (hY : ∀ n s₀ s kap c τ H, Inv Y pp τ H s → (c = stopAt → Z stopAt H) → (c ≠ stopAt → ∀ s'', Okay s s'' → kap (.send .none) s'') → Yp n s₀ (.bool c) s kap) :
    ∀ (m n i : Nat) (τ : St) (H : Hp) (s s₀ : Shared), m < n → W i m τ H → Inv Y pp τ H s → tnn i s.heap → (∀ b ∈ fp, H b = none) →
      Seg (model Y.prog Y.w) A2 R Yp n s₀ (.compLoop (.GeneratorExp elt [⟨tg, iter, ifs, 0⟩] scope pos) 0 (.ref it) .none Y.env)
        ((model Y.prog Y.w).den (.compLoop (.GeneratorExp elt [⟨tg, iter, ifs, 0⟩] scope pos) 0 (.ref it) .none Y.env)) [] s := by
  intro m
  induction m using Nat.strongRecOn with
  | ind m ih =>
    intro n i τ H s s₀ hmn w I st fr
    show Seg _ A2 _ _ _ s₀ _ ((compTurn (.GeneratorExp elt [⟨tg, iter, ifs, 0⟩] scope pos) 0 (.ref it) .none Y.env).onRaise (leaving Y.env)) [] s
    rw [compTurn_gen, Sem.onRaise_eq_wrap]
    rcases turn i m τ H w with ⟨stop, qn⟩ | ⟨go, step⟩
    · refine seg_bind_wrap (wpAny_standAt ?_)
      have d := T.done Y rfl rfl rfl hc i pp s τ H (fun _ _ => False) I (stat fr) st stop
      rw [hA] at d
      refine seg_bind_wrap (wpAny_mono d (fun r s1 ⟨hr, I1⟩ => ?_) fun _ _ z => z.elim)
      subst hr
      exact seg_end (.ok .next) (hR _ _ _ _ _ I1 qn)
    · refine seg_bind_wrap (wpAny_standAt ?_)
      have d := T.item Y rfl rfl rfl hc i pp s τ H (fun _ _ => False) I (stat fr) st go
      rw [hA] at d
      refine seg_bind_wrap (wpAny_mono d (fun r s4 ⟨u, hr, h4⟩ => ?_) fun _ _ z => z.elim)
      subst hr
      refine seg_bind_wrap (wpAny_mono h4 (fun _ s5 ⟨x, H5, I5, r5, y5, st5, fr5⟩ => ?_) fun _ _ z => z.elim)
      have I5' := I5.pinned (stat fr5) (T.obj _ _ st5)
      have back : ∀ {τ7 : St} {H7 : Hp} {s7 : Shared}, Inv Y (pp ++ pinsAt fp s5.heap) τ7 H7 s7 → tnn (i + 1) s7.heap ∧ ∀ b ∈ fp, H7 b = none := fun {τ7 H7 s7} I7 => by
        refine ⟨T.keep _ _ _ st5 fun b hb o e => (I7.pin (b, o) (List.mem_append_right _ (List.mem_append_right _ (mem_pinsAt hb e)))).1, fun b hb => ?_⟩
        obtain ⟨o, e, d⟩ := T.obj _ _ st5 b hb
        exact (I7.pin (b, o) (List.mem_append_right _ (List.mem_append_right _ (mem_pinsAt hb e)))).2.1
      have d2 := hg _ s5 τ H5 x u _ I5' r5 (step x H5 y5)
      rw [hA, hxe] at d2
      refine seg_bind_wrap (wpAny_mono d2 (fun _ s6 ⟨τ6, H6, I6, q6⟩ => ?_) fun _ _ z => z.elim)
      have d3 := ht _ s6 τ6 H6 _ I6 q6
      rw [hA, hxe] at d3
      refine seg_bind_wrap (wpAny_mono d3 (fun ok s7 ⟨H7, I7, q7⟩ => ?_) fun _ _ z => z.elim)
      have hy : ∀ v, yieldOut Y.env v = yieldValue v := fun v => by simp only [yieldOut, hco, Bool.false_eq_true, if_false]
      cases ok with
      | false =>
        simp only [Bool.false_eq_true, if_false] at q7 ⊢
        obtain ⟨m', hm', w7⟩ := q7
        exact seg_again rfl (ih m' hm' n (i + 1) τ6 H7 s7 s₀ (by omega) w7 I7.unpinned (back I7).1 (back I7).2)
      | true =>
        simp only [if_true] at q7 ⊢
        simp only [hy]
        rw [Sem.bind_eq_wrap', Sem.bind_eq_wrap', Sem.wrap_wrap, Sem.wrap_wrap]
        have d4 := he _ s7 τ6 H7 _ I7 q7
        rw [hA, hxe] at d4
        refine seg_wrap (wpAny_mono d4 (fun yv s8 ⟨y, H8, I8, r8, q8⟩ => ?_) fun _ _ z => z.elim)
        obtain ⟨c, ey, q8⟩ := q8
        subst ey
        cases (show yv = Value.bool c from r8)
        obtain ⟨n, rfl⟩ : ∃ n', n = n' + 1 := ⟨n - 1, by omega⟩
        refine seg_at (seg_yield rfl rfl rfl (hY _ _ _ _ c τ6 H8 I8.unpinned (fun e => by rw [if_pos e] at q8; exact q8) fun e s'' ok => ?_))
        rw [if_neg e] at q8
        obtain ⟨m', hm', w8⟩ := q8
        have I9 := I8.okay ok
        exact seg_again rfl (ih m' hm' n (i + 1) τ6 H8 s'' s'' (by omega) w8 I9.unpinned (back I9).1 (back I9).2)
end
end L2

set_option Elab.async false
set_option maxRecDepth 100000
set_option maxHeartbeats 4000000
namespace L2
open PySem PySem.Spec PyProof.Rows

abbrev geOf (elt tg iter : Expr) (ifs : List Expr) (scope : Scope) (pos : Pos) : Expr := .GeneratorExp elt [⟨tg, iter, ifs, 0⟩] scope pos
abbrev cxG (X : Cx) (N' : List Str) (scope : Scope) (cl : List (Str × Addr)) (C : Addr) (code : Value) (A' : Around) (s : Shared) (H : Hp) (fp : List Addr) : Cx :=
  cxBlock X N' (genEnv scope cl C code builtinsNs X.env) A' (genEnv scope cl C code builtinsNs X.env :: X.stack) s H fp
abbrev BlkG (X : Cx) (N' : List Str) (scope : Scope) (k : Nat) (P : Cx → Prop) : Prop := ∀ (cl : List (Str × Addr)) (C : Addr) (code : Value) (A' : Around) (s : Shared) (H : Hp) (fp : List Addr), Room k A' → P (cxG X N' scope cl C code A' s H fp)

structure GenL (X : Cx) (pins : List (Addr × Obj)) (σ : St) (N' : List Str) (scope : Scope) (tn : Nat) (idx : List Nat) (k : Nat) (elt tg iter : Expr) (ifs : List Expr) (pos : Pos) (J : It) (H3 : Hp) (a : Addr) (s5 : Shared)
    (Y : Cx) (it : Addr) (fp : List Addr) (tnn : Nat → Heap → Prop) (g : Nat) (pp : List (Addr × Obj)) : Prop where
  inv : Inv Y pp (blockSt tn idx σ) H3 s5
  isg : ∀ {τ : St} {H' : Hp} {s' : Shared}, Inv Y pp τ H' s' → s'.heap.IsGen a g
  st : s5.gens[g]? = some (.fresh (.compStart (geOf elt tg iter ifs scope pos) 0 (.ref it) .none Y.env))
  T : Turn Y.prog Y.w Y.K tg J fp it tnn
  tn0 : tnn 0 s5.heap
  fr : ∀ b ∈ fp, H3 b = none
  stat : ∀ {H' : Hp}, (∀ b ∈ fp, H' b = none) → ∀ b ∈ fp, FpOk Y pp H' b
  out : ∀ {τ : St} {H' : Hp} {s' : Shared}, Inv Y pp τ H' s' → Inv X pins σ H' s'
  A : Y.A = X.A.in4.in1.over (.compLoop (geOf elt tg iter ifs scope pos) 0 (.ref it) .none Y.env) []
  xe : Y.xe = fun _ _ => False
  calm : Y.calm = true
  co : Y.env.scope.isCoroutine = false
  gsz : ∀ {τ : St} {H' : Hp} {s' : Shared}, Inv Y pp τ H' s' → g < s'.gens.size
  blk : ∀ P : Cx → Prop, BlkG X N' scope k P → P Y
  prog : Y.prog = X.prog
  w : Y.w = X.w

section
variable {X : Cx} {tg elt iter : Expr} {ifs : List Expr} {scope : Scope} {pos : Pos} {N' : List Str} {tn : Nat} {idx : List Nat} {wi : TI} {g : TG} {tt : TT} {te : TE} {c P : Addr} {k : Nat}
def tMk (P : Addr) (wi : TI) (R : It → Hp → Prop) : St → Hp → Prop := fun σ H => wi σ H fun J H1 => Tb P H1 ∧ ∀ ps, TriplesOk ps.toList → R J (upd H1 P (.tbl ps))
theorem gen_make {pins : List (Addr × Obj)} {s : Shared} {σ : St} {H : Hp} {QQ : Value → Shared → Prop} {R : It → Hp → Prop} (hr : Room (k + 1) X.A) (hc : X.calm = true) (B : BlockOk X.N X.env.scope scope N' tn idx)
    (h0 : scope.names.lookup (".0" : Str) = some .local) (hco : scope.isCoroutine = false) (hcode : X.env.code = .ref c) (hd : PySem.W.CodeHd X.base c P) (hbm : ∃ bm ob, BMod X.base mainGlobals X.mg bm ob)
    (hi : PI X tg iter wi) (hs : ∀ x, genFold iter X.env x = pure x) (I : Inv X pins σ H s) (h : tMk P wi R σ H)
    (q : ∀ J H3 a s5 Y it fp tnn gn pp, GenL X pins σ N' scope tn idx k elt tg iter ifs pos J H3 a s5 Y it fp tnn gn pp → R J H3 → QQ (.ref a) s5) :
    wpAny (model X.prog X.w) X.A (eval (geOf elt tg iter ifs scope pos) X.env) QQ X.xe s := by
  obtain ⟨cl, hclos, hcl1, hcl2⟩ := closure_ok (scope := scope) (env := X.env) fun n hn => I.ok.has n ((B.2.1 _ hn).2.2 rfl)
  refine wpAny_GeneratorExp_make hco hclos (fun y hy => (B.2.1 y hy).1) h0 B.1 hr.depth (thn (hi pins s σ H _ I h) fun xv s1 h1 => thn h1 fun itv s2 h2 => ?_) hs
  obtain ⟨it, fp, tnn, J, H2, e, I2, T, st2, f2, ⟨ps, hP, htr⟩, q2⟩ := h2
  subst e
  refine ⟨I2.nolimit, wp_genexprCode I2 hcode hd hP htr fun code ps' s3 tr' I3 kp gs3 => ?_⟩
  obtain ⟨bm, ob, bmod⟩ := hbm
  have bm3 := bmod.keeps I3.bk
  refine wpAny_builtinsFor (by rw [I3.ok.glob]; exact bm3.ns) bm3.name bm3.ne bm3.obj bm3.cls bm3.dict bm3.data ?_
  intro h' hn' hs'
  have neP : ∀ b ∈ fp, b ≠ P := fun b hb z => by have := (f2 b hb).1; rw [z, hP] at this; cases this
  have st3 : tnn 0 s3.heap := T.keep _ _ _ st2 fun b hb o e => kp b o (neP b hb) e
  have fpo : ∀ b ∈ fp, b < s3.heap.objs.size := fun b hb => let ⟨o, e, _⟩ := T.obj _ _ st3 b hb; Heap.lt_size e
  have f3 : ∀ b ∈ fp, FpOk X pins (upd H2 P (.tbl ps')) b := fun b hb => ⟨by rw [upd_ne (neP b hb)]; exact (f2 b hb).1, (f2 b hb).2⟩
  have hsz : h'.objs.size = s3.heap.objs.size + 1 := by rw [hs'.1, Heap.size_push]
  have keep' : ∀ b o, s3.heap.get? b = some o → h'.get? b = some o := fun b o e => hs'.extBut b o (Nat.ne_of_lt (Heap.lt_size e)) (Heap.get?_push_of_some _ e)
  have gn' : Gn s3.gens.size (s3.gens.push (.fresh (.compStart (geOf elt tg iter ifs scope pos) 0 (.ref it) .none (genEnv scope cl s3.heap.objs.size code builtinsNs X.env)))) := ⟨AllBare.push I3.bare.1 rfl, by rw [Array.size_push]; exact Nat.le_succ _⟩
  have I3' : Inv X pins σ (upd H2 P (.tbl ps')) { s3 with gens := s3.gens.push (.fresh (.compStart (geOf elt tg iter ifs scope pos) 0 (.ref it) .none (genEnv scope cl s3.heap.objs.size code builtinsNs X.env))) } := I3.okay ⟨rfl, rfl, gn'⟩
  have hA : (X.A.in4.in1.over (.compLoop (geOf elt tg iter ifs scope pos) 0 (.ref it) .none (genEnv scope cl s3.heap.objs.size code builtinsNs X.env)) []).frames = some (genEnv scope cl s3.heap.objs.size code builtinsNs X.env :: X.stack) := by
    show pushEnvs [_] (pushEnvs [] X.A.frames) = _
    rw [I.ok.frames]; rfl
  have hroom : Room k (X.A.in4.in1.over (.compLoop (geOf elt tg iter ifs scope pos) 0 (.ref it) .none (genEnv scope cl s3.heap.objs.size code builtinsNs X.env)) []) := by
    refine ⟨hr.hd, ?_, ?_⟩
    · show X.A.depth + 0 + 1 + 3 * k + 5 < recursionLimit
      have := hr.dp
      omega
    · show X.A.units + 1 + 1 + 1 + 1 + 1 + 0 + 3 + 16 * k + 200 < cLine
      have := hr.un
      omega
  generalize hgo : ({ cls := .type "generator", data := .fields #[.int s3.gens.size 0, .str "<genexpr>" (s3.toks + 1), .str (X.env.qual ++ "<genexpr>") (s3.toks + 1 + 1)] } : Obj) = gob
  have keep5 : ∀ b o, s3.heap.get? b = some o → (h'.push gob).get? b = some o := fun b o e => Heap.get?_push_of_some _ (keep' b o e)
  have hgob : gob.isFreed = false := by rw [← hgo]; rfl
  have hao : (h'.push gob).get? h'.objs.size = some gob := Heap.get?_push_size _ hgob
  have haC : h'.objs.size ≠ s3.heap.objs.size := by rw [hsz]; exact Nat.succ_ne_self _
  have hHa : upd H2 P (.tbl ps') h'.objs.size = none := I3.hok.fresh (by rw [hsz]; exact Nat.le_succ _)
  have I5 := inv_block (X := X) (N' := N') (A' := X.A.in4.in1.over (.compLoop (geOf elt tg iter ifs scope pos) 0 (.ref it) .none (genEnv scope cl s3.heap.objs.size code builtinsNs X.env)) []) (env' := genEnv scope cl s3.heap.objs.size code builtinsNs X.env) (stack' := genEnv scope cl s3.heap.objs.size code builtinsNs X.env :: X.stack) (ex := fp) (h1 := h'.push gob) (m0 := fun y => if y = ".0" then some (.ref it) else none)
    (g' := s3.gens.push (.fresh (.compStart (geOf elt tg iter ifs scope pos) 0 (.ref it) .none (genEnv scope cl s3.heap.objs.size code builtinsNs X.env)))) (tk := s3.toks + 1 + 1 + 1) (σ' := blockSt tn idx σ) I3' B.1 rfl I3.ok.blt.symm hcl1 (fun x hx => by
      have hx' : scope.names.lookup x = some .cell ∨ scope.names.lookup x = some .free := hx
      rcases hx' with z | z
      · exact absurd rfl ((B.2.1 _ (PySem.mem_of_lookup z)).1)
      · exact hcl2 x (PySem.mem_of_lookup z)) (fun z => I.ok.hd z) hA (.inr ⟨rfl, rfl⟩) (Nat.le_refl _) f3 fpo (Un.kept keep5) (I3.hok.kept keep5) (I3.hok.fresh (Nat.le_refl _)) keep5 (hn'.push _) (fun i x v e1 e2 e3 => by
      obtain ⟨fr, j, e4, e5⟩ := B.at e1 e2
      have kx := (B.2.1 _ (PySem.mem_of_lookup fr)).2.2 rfl
      exact ⟨.inr fr, .inr kx, kx, j, e4, e5⟩) (B.len σ) (Gn.self gn')
  have nfs : h'.objs.size ∉ frs X.stack := fun z => by
    rcases List.mem_cons.mp (I3.stkSub _ z) with q | q
    · exact Nat.ne_of_gt (Nat.lt_of_lt_of_le I3.lt (by rw [hsz]; exact Nat.le_succ _)) q
    · exact I3.nofs (by rw [hsz]; exact Nat.le_succ _) q
  have hcell : ∀ v, gob.data ≠ .cell v := by rw [← hgo]; intro v z; cases z
  have I6 := I5.pins_of (pins' := [(h'.objs.size, gob)]) (fun p hp => by
    rcases List.mem_singleton.mp hp with rfl
    exact ⟨hao, hHa, haC, nfs, hcell⟩)
  refine q J _ _ _ (cxG X N' scope cl s3.heap.objs.size code _ _ _ fp) it fp tnn s3.gens.size [(h'.objs.size, gob)] ⟨I6, fun {τ H' s'} J' => ?_, ?_, T, T.keep _ _ _ st3 fun b _ o e => keep5 b o e, fun b hb => (f3 b hb).1, fun {H'} hn b hb => ?_, fun {τ H' s'} J' => ?_, rfl, rfl, hc, hco, fun {τ H' s'} J' => ?_, fun Pp hb => hb cl _ code _ _ _ fp hroom, rfl, rfl⟩ (q2 ps' tr')
  · have := (J'.pin (h'.objs.size, gob) (List.mem_append_right _ (List.mem_singleton.mpr rfl))).1
    exact ⟨gob, _, _, this, by rw [← hgo], by rw [← hgo], by rw [← hgo]⟩
  · exact Array.getElem?_push_size ..
  · refine ⟨hn b hb, Nat.ne_of_lt (fpo b hb), fun z => ?_, .inl hb, fun x c e => (f2 b hb).2.2.2.2.1 x c (hcl1 x c e), fun p hp z => ?_⟩
    · rcases List.mem_cons.mp (I2.stkSub b z) with q | q
      · exact (f2 b hb).2.1 q
      · exact (f2 b hb).2.2.1 q
    · rcases List.mem_singleton.mp hp with rfl
      have z' : h'.objs.size = b := z
      have := fpo b hb
      rw [← z', hsz] at this
      exact absurd this (Nat.not_lt.mpr (Nat.le_succ _))
  · exact I3'.call' J'.os J'.base J'.hok J'.bare fun b hb => ⟨(f3 b hb).2.2.2.1, (f3 b hb).2.1, (f3 b hb).2.2.2.2.1, (f3 b hb).2.2.2.2.2⟩
  · have := J'.bare.2
    have e : (cxG X N' scope cl s3.heap.objs.size code (X.A.in4.in1.over (.compLoop (geOf elt tg iter ifs scope pos) 0 (.ref it) .none (genEnv scope cl s3.heap.objs.size code builtinsNs X.env)) []) { s3 with gens := s3.gens.push (.fresh (.compStart (geOf elt tg iter ifs scope pos) 0 (.ref it) .none (genEnv scope cl s3.heap.objs.size code builtinsNs X.env))) } (upd H2 P (.tbl ps')) fp).s₀.gens.size = s3.gens.size + 1 := by
      show (s3.gens.push _).size = _
      rw [Array.size_push]
    rw [e] at this
    omega

theorem all_loop {prog : Program} {w : World} {A : Around} {a : Addr} {R' : Result → Shared → Prop} (In : Nat → Shared → Prop)
    (turn : ∀ n s, In n s → wpAny (model prog w) A.in1 (pyNext (.ref a)) (fun r s1 => match r with
      | none => R' (.ok (.ret (.bool true))) s1
      | some v => ∃ c, v = .bool c ∧ if c = true then ∃ m, m < n ∧ In m s1 else R' (.ok (.ret (.bool false))) s1) (fun e s' => R' (.error e) s') s) :
    ∀ (n : Nat) (s : Shared), In n s → codeAny (model prog w) A (.builtin "all.loop" ⟨[.ref a], []⟩) R' s := by
  intro n
  induction n using Nat.strongRecOn with
  | ind n ih =>
    intro s h
    refine codeAny_builtin F.entry_all_loop ?_
    rw [Around.under_plainId F.plain_all_loop _]
    show wpAny _ A.in1 (pyNext (.ref a) >>= _) _ _ s
    refine wpAny_bind (wpAny_mono (turn n s h) (fun r s1 q => ?_) fun _ _ z => z)
    cases r with
    | none => exact wpAny_bind (wpAny_rule (wpAny_pure q))
    | some v =>
      obtain ⟨c, e, q⟩ := q
      subst e
      refine wpAny_bind (wpAny_holding (wpAny_truthy_bool ?_))
      refine wpAny_bind (wpAny_letGo ?_)
      cases c with
      | true =>
        simp only [if_true] at q ⊢
        obtain ⟨m, hm, hI⟩ := q
        exact wpAny_pure ⟨plainId_quiet F.plain_all_loop _, ih m hm s1 hI⟩
      | false =>
        simp only [Bool.false_eq_true, if_false] at q ⊢
        exact wpAny_bind (wpAny_rule (wpAny_pure q))

theorem setGen_gn {s : Shared} {g : Nat} {x : GenState} {n : Nat} (h : Gn n s.gens) (hx : x.bare = true) : Gn s.gens.size (s.setGen g x).gens := by
  refine ⟨fun y hy => ?_, ?_⟩
  · have hy' : y ∈ s.gens.setIfInBounds g x := hy
    rcases Array.mem_or_eq_of_mem_setIfInBounds hy' with z | z
    · exact h.1 y z
    · rw [z]; exact hx
  · show s.gens.size ≤ (s.gens.setIfInBounds g x).size
    rw [Array.size_setIfInBounds]
    exact Nat.le_refl _
theorem setGen_at {s : Shared} {g : Nat} {x : GenState} (h : g < s.gens.size) : (s.setGen g x).gens[g]? = some x := by
  show (s.gens.setIfInBounds g x)[g]? = _
  rw [Array.getElem?_setIfInBounds_self]
  simp [h]

theorem seg_start {Y : Cx} {A2 : Around} {R : GenEnd} {Yp : Protocol} {n : Nat} {s₀ s : Shared} {it : Addr} {J : It} {fp : List Addr} {tnn : Nat → Heap → Prop} (T : Turn Y.prog Y.w Y.K tg J fp it tnn) {i : Nat} (st : tnn i s.heap)
    (loop : Seg (model Y.prog Y.w) A2 R Yp n s₀ (.compLoop (geOf elt tg iter ifs scope pos) 0 (.ref it) .none Y.env) ((model Y.prog Y.w).den (.compLoop (geOf elt tg iter ifs scope pos) 0 (.ref it) .none Y.env)) [] s) :
    Seg (model Y.prog Y.w) A2 R Yp n s₀ (.compStart (geOf elt tg iter ifs scope pos) 0 (.ref it) .none Y.env) ((model Y.prog Y.w).den (.compStart (geOf elt tg iter ifs scope pos) 0 (.ref it) .none Y.env)) [] s := by
  show Seg _ A2 _ _ _ s₀ _ ((compStart (geOf elt tg iter ifs scope pos) 0 (.ref it) .none Y.env).onRaise (leaving Y.env)) [] s
  unfold compStart
  rw [Sem.onRaise_eq_wrap]
  show Seg _ A2 _ _ _ s₀ _ ((ask >>= _).wrap _ _ _ _) [] s
  refine seg_bind_wrap (wpAny_askSetting ?_)
  split
  · exact seg_again rfl loop
  · first
      | exact seg_bind_wrap (wpAny_rule (seg_bind_wrap (wpAny_standAt (seg_bind_wrap (T.self _ i s _ _ st (seg_again rfl loop))))))
      | (refine seg_bind_wrap (wpAny_rule ?_); show Seg _ A2 _ _ _ s₀ _ ((standAt iter.pos >>= _).wrap _ _ _ _) [] s; exact seg_bind_wrap (wpAny_standAt (seg_bind_wrap (T.self _ i s _ _ st (seg_again rfl loop)))))

def tAll (P : Addr) (tn : Nat) (idx : List Nat) (wi : TI) (g : TG) (tt : TT) (te : TE) : TE := fun σ H Q => tMk P wi (fun J H1 => ∃ W : Nat → Nat → St → Hp → Prop, (∃ m, W 0 m (blockSt tn idx σ) H1) ∧ tGen J g tt te false (fun b H2 => Q (.bl b) H2) W) σ H

theorem pe_all {p gpos : Pos} (hr : Room (k + 1) X.A) (hc : X.calm = true) (B : BlockOk X.N X.env.scope scope N' tn idx)
    (h0 : scope.names.lookup (".0" : Str) = some .local) (hco : scope.isCoroutine = false) (hcode : X.env.code = .ref c) (hd : PySem.W.CodeHd X.base c P) (hbm : ∃ bm ob, BMod X.base mainGlobals X.mg bm ob)
    (hgl : Gl X "all") (hm : X.mg "all" = none) (hi : PI X tg iter wi) (hg : BlkG X N' scope k fun Y => PG Y tg g) (ht : BlkG X N' scope k fun Y => PIf Y ifs tt) (he : BlkG X N' scope k fun Y => PE Y elt te)
    (hs : ∀ x, genFold iter X.env x = pure x := by intro _; rfl) : PE X (.Call (.Name "all" p) [geOf elt tg iter ifs scope gpos] [] pos) (tAll P tn idx wi g tt te) := by
  refine ⟨?_⟩
  intro pins s σ H Q I h
  refine wpAny_Call_Name_kw (ld_blt I hgl hm PyProof.Rows.boot_all ?_)
  refine PyProof.Rows.callWith_builtin1 ?_ rfl rfl
  show wpAny _ _ (spliced ((false, eval (geOf elt tg iter ifs scope gpos) X.env) :: [])) _ _ s
  refine Calls.spliced_cons (gen_make hr hc B h0 hco hcode hd hbm hi hs I h ?_)
  intro J H3 a s5 Y it fp tnn gn pp G ⟨W, ⟨m0, w0⟩, turn⟩
  refine Calls.spliced_nil ?_
  refine call_function_tree F.kind_all F.plain_all F.entry_all (F.args_all1 _) ?_
  unfold Builtin.«all»
  refine wpAny_bind (m := oneArg "all" _) (wpAny_pure ?_)
  refine wpAny_bind (wpAny_pyIter_gen (G.isg G.inv) ?_)
  refine wpAny_pure ⟨plainId_quiet F.plain_all_loop _, ?_⟩
  have segs := seg_loop (A2 := X.A.in4.in1) (pp := pp) (R := fun n s₀ r s₁ => r = .ok .next ∧ ∃ τ H, Inv Y pp τ H s₁ ∧ Q (.bl true) H)
    (Yp := fun n s₀ v s kap => ∃ c τ H, v = .bool c ∧ Inv Y pp τ H s ∧ (c = false → Q (.bl false) H) ∧ (c ≠ false → ∀ s'', Okay s s'' → kap (.send .none) s'')) G.A G.xe G.calm G.co G.T (G.blk _ hg) (G.blk _ ht) (G.blk _ he) G.stat turn
    (fun n s₀ s₁ τ H J z => ⟨rfl, τ, H, J, z⟩) (fun n s₀ s kap c τ H J z1 z2 => ⟨c, τ, H, rfl, J, z1, z2⟩)
  have hP := G.prog
  have hW := G.w
  rw [hP, hW] at segs
  refine all_loop (A := X.A) (fun n s => (∃ τ H, Inv Y pp τ H s) ∧ ∃ gs, s.gens[gn]? = some gs ∧ ∀ s'', Okay s s'' → gs.Goes (model X.prog X.w) X.A.in4.in1 (fun n s₀ r s₁ => r = .ok .next ∧ ∃ τ H, Inv Y pp τ H s₁ ∧ Q (.bl true) H)
    (fun n s₀ v s kap => ∃ c τ H, v = .bool c ∧ Inv Y pp τ H s ∧ (c = false → Q (.bl false) H) ∧ (c ≠ false → ∀ s'', Okay s s'' → kap (.send .none) s'')) n (.send .none) s'') ?_ (m0 + 1) s5 ?_
  · rintro n s6 ⟨⟨τ, H6, I6⟩, gs, hgs, hgo⟩
    have hgsz := G.gsz I6
    refine wpAny_of_in1 (wpAny_of_in1 (wpAny_of_in1 ?_))
    show wpAny (model X.prog X.w) X.A.in4 (pyNext (.ref a)) _ _ s6
    refine wpAny_pyNext_genexpQ (A := X.A.in4) (P := fun n s₀ s₁ => ∃ τ H, Inv Y pp τ H s₁ ∧ Q (.bl true) H) hr.hd I6.nolimit hr.depth (G.isg I6) hgs (hgo _ ⟨rfl, rfl, setGen_gn I6.bare rfl⟩) (fun v s1 gs' hb hv => ?_) (fun s1 hp h' hk => ?_)
    · obtain ⟨c, τ1, H1, e, I1, z1, z2⟩ := hv
      subst e
      refine ⟨c, rfl, ?_⟩
      have ok1 : Okay s1 (s1.setGen gn gs') := ⟨rfl, rfl, setGen_gn I1.bare hb⟩
      cases c with
      | false =>
        rw [if_neg Bool.false_ne_true]
        exact ⟨.bl false, H1, G.out (I1.okay ok1), rfl, z1 rfl⟩
      | true =>
        rw [if_pos rfl]
        have z3 := z2 (by decide)
        cases n with
        | zero => exact (z3 s1 ⟨rfl, rfl, I1.bare.self⟩).elim
        | succ m =>
          refine ⟨m, Nat.lt_succ_self _, ⟨τ1, H1, I1.okay ok1⟩, gs', setGen_at (G.gsz I1), fun s'' o => z3 s'' ⟨o.1, o.2.1, ?_⟩⟩
          exact ok1.2.2.trans o.2.2
    · obtain ⟨τ1, H1, I1, z1⟩ := hp
      have I2 := I1.kept (t' := s1.toks) hk
      have ok2 : Okay { s1 with heap := h' } { s1.setGen gn .finished with heap := h' } := ⟨rfl, rfl, setGen_gn (s := s1) I1.bare rfl⟩
      exact ⟨.bl true, H1, G.out (I2.okay ok2), rfl, z1⟩
  · refine ⟨⟨_, _, G.inv⟩, _, G.st, fun s'' o => ⟨rfl, ?_⟩⟩
    have I7 := G.inv.okay o
    have st7 : tnn 0 s''.heap := by rw [o.1]; exact G.tn0
    have q := seg_start (iter := iter) (ifs := ifs) (scope := scope) (pos := gpos) (elt := elt) G.T st7 (by rw [hP, hW]; exact segs m0 (m0 + 1) 0 _ _ s'' s'' (Nat.lt_succ_self _) w0 I7 st7 G.fr)
    rw [hP, hW] at q
    exact q
end
end L2

set_option Elab.async false
set_option maxRecDepth 100000
set_option maxHeartbeats 4000000
namespace L2
open PySem PySem.Spec PyProof.Rows

end L2

set_option Elab.async false
set_option maxRecDepth 100000
set_option maxHeartbeats 4000000
namespace L2
open PySem PySem.Spec PyProof.Rows

def Its (x : Str) : It := ⟨fun i _ => i < x.length, fun i H v H' => H' = H ∧ ∃ c, x.cps[i]? = some c ∧ v = .str ⟨#[c]⟩, fun i _ => x.length ≤ i⟩
theorem turn_str {P : Program} {w : World} {K : PySem.W.Frag} {tg : Expr} (it : Addr) (x : Str) (t : Tok) (ty : String) (hty : ["enumerate", "zip", "dict_itemiterator", "dict_reverseitemiterator", "odict_iterator", "itertools.zip_longest", "itertools.pairwise"].contains ty = false)
    (W : ∀ A : Around, A.handled = none → Walks P w A it [it] [it] x.cps.size (SignAt x) (fun i h => h.IsStrIter it ty x t i))
    (self : ∀ (A : Around) (i : Nat) (s : Shared) (Q : Value → Shared → Prop) (E : Value → Shared → Prop), s.heap.IsStrIter it ty x t i → Q (.ref it) s → wpAny (model P w) A (pyIter (.ref it)) Q E s) :
    Turn P w K tg (Its x) [it] it (fun i h => h.IsStrIter it ty x t i ∧ i ≤ x.length) where
  mem := by simp
  obj := fun i h st b hb => by
    have e : b = it := by simpa using hb
    subst e
    obtain ⟨⟨o, ho, _, hd⟩, _⟩ := st
    exact ⟨o, ho, fun v z => by rw [hd] at z; cases z⟩
  keep := fun i h h' st k => ⟨let ⟨o, ho, r⟩ := st.1; ⟨o, k it (by simp) o ho, r⟩, st.2⟩
  item := by
    intro X hP hw hK hc i pins s σ H E I hf st hg
    subst hP hw hK
    obtain ⟨f0, f1, f2, f3, f4, f5⟩ := hf it (by simp)
    have hg' : i < x.cps.size := hg
    refine (W X.A (I.ok.hd hc)).item i s _ _ hg' st.1 fun v h' tk hv st' kk => ?_
    obtain ⟨c, u, hcu, rfl⟩ := hv
    have I1 : Inv X pins σ H { s with heap := h', toks := tk } := I.turned (fun b o hb e => kk b o (by simpa using hb) e) f0 f1 f3 f4 f5
    obtain ⟨o, ho, hcl, hd⟩ := id st'
    exact ⟨_, rfl, go_of (s := { s with heap := h', toks := tk }) (n := ty) ho hcl hd hty ⟨.str ⟨#[c]⟩, H, I1, ⟨u, rfl⟩, ⟨rfl, c, hcu, rfl⟩, ⟨st', hg'⟩, fun b hb => (hf b hb).1⟩⟩
  done := by
    intro X hP hw hK hc i pins s σ H E I hf st hg
    subst hP hw hK
    obtain ⟨f0, f1, f2, f3, f4, f5⟩ := hf it (by simp)
    have e : i = x.cps.size := Nat.le_antisymm st.2 hg
    subst e
    exact (W X.A (I.ok.hd hc)).done s _ _ st.1 fun h' tk kk => ⟨rfl, I.turned (fun b o hb e => kk b o (by simpa using hb) e) f0 f1 f3 f4 f5⟩
  self := fun A i s Q E st h => self A i s Q E st.1 h
section
variable {X : Cx} {tg l : Expr} {tl : TE}
def iStr (tl : TE) : TI := fun σ H R => tl σ H fun x H1 => ∃ z, x = .str z ∧ R (Its z) H1
theorem pi_str (hl : PE X l tl) : PI X tg l (iStr tl) := by
  intro pins s σ H R I h
  refine thn (hl pins s σ H _ I h) fun v s1 ⟨y, H1, I1, r1, q1⟩ => ?_
  obtain ⟨z, rfl, q⟩ := q1
  obtain ⟨t, rfl⟩ := r1
  have fin : ∀ (o : Obj) (ty : String), (∀ v, o.data ≠ .cell v) → (s1.heap.push o).IsStrIter s1.heap.objs.size ty z t 0 → Turn X.prog X.w X.K tg (Its z) [s1.heap.objs.size] s1.heap.objs.size (fun i h => h.IsStrIter s1.heap.objs.size ty z t i ∧ i ≤ z.length) → PIE X pins σ tg R (.ref s1.heap.objs.size) { s1 with heap := s1.heap.push o } := fun o ty hd hit T =>
    ⟨_, [s1.heap.objs.size], _, Its z, H1, rfl, I1.kept (t' := s1.toks) (fun b u e => Heap.get?_push_of_some _ e), T, ⟨hit, Nat.zero_le _⟩, fun b hb => by
      have e : b = s1.heap.objs.size := by simpa using hb
      subst e
      exact I1.fpOk (Nat.le_refl _) (I1.hok.fresh (Nat.le_refl _)), q⟩
  cases ha : z.cps.all (· < 128)
  · exact wpAny_pyIter_wide ha (fin _ "str_iterator" (fun v e => by cases e) ⟨_, Heap.get?_push_size _ rfl, rfl, rfl⟩ (turn_str _ z t _ (by decide) (fun A' hA => Walks.strWide hA _ z t) fun A i s Q E st h => wpAny_pyIter_striter_wide st h))
  · exact wpAny_pyIter_ascii ha (fin _ "str_ascii_iterator" (fun v e => by cases e) ⟨_, Heap.get?_push_size _ rfl, rfl, rfl⟩ (turn_str _ z t _ (by decide) (fun A' hA => Walks.strAscii hA _ z t) fun A i s Q E st h => wpAny_pyIter_striter_ascii st h))

def rSlS : V → Option Int → Option Int → Hp → VK → Prop := fun x lo hi H Q => ∃ z, x = .str z ∧ z.length ≤ sizeLine ∧ Q (.str (Txt.slice z lo hi)) H
theorem sl_str : SlR X rSlS := by
  intro pins s σ H x v vl vu lo hi sl Q I rx hs pl pu h
  obtain ⟨z, rfl, hz, q⟩ := h
  obtain ⟨t, rfl⟩ := rx
  refine ⟨"str", _, F.slot_str_getitem.lookup, typeIs_str _ _ _, ?_⟩
  have fin : ∀ (l u : Option (Int × Tok)), s.heap.IsSlice sl l u none → l.map (·.1) = lo → u.map (·.1) = hi → wpAny (model X.prog X.w) X.A (getItem (.str z t) (.ref sl)) (EP X pins σ Q) X.xe s := fun l u e e1 e2 => by
    refine wpAny_getItem_str_slice (l := l) (u := u) (st := none) e rfl ?_
    refine post_val_or_str ⟨?_, fun t' k => ?_⟩
    · exact (show (Txt.slice z (l.map (·.1)) (u.map (·.1))).length ≤ sizeLine from Nat.le_trans (Txt.slice_le z _ _) hz)
    · refine ⟨.str (Txt.slice z lo hi), H, I.tok k, ⟨t', ?_⟩, q⟩
      rw [← e1, ← e2]
      rfl
  obtain ⟨o, ho, hc, hd⟩ := hs
  cases pl with
  | none =>
    cases pu with
    | none => exact fin none none ⟨o, ho, hc, hd⟩ rfl rfl
    | int j uj => exact fin none (some (j, uj)) ⟨o, ho, hc, hd⟩ rfl rfl
  | int i ui =>
    cases pu with
    | none => exact fin (some (i, ui)) none ⟨o, ho, hc, hd⟩ rfl rfl
    | int j uj => exact fin (some (i, ui)) (some (j, uj)) ⟨o, ho, hc, hd⟩ rfl rfl
theorem op_mul_str : OpR X (binaryOp .Mult) (fun x y H Q => ∃ z n, x = .str z ∧ y = .int n ∧ MulOk z n ∧ Q (.str (Txt.mul z n)) H) := by
  intro pins s σ H x y v u Q I rx ry h
  obtain ⟨z, n, rfl, rfl, ok, q⟩ := h
  obtain ⟨t, rfl⟩ := rx
  obtain ⟨t', rfl⟩ := ry
  exact SB.mul ok fun t'' k => ⟨.str (Txt.mul z n), H, I.tok k, ⟨t'', rfl⟩, q⟩

theorem vals_getD {xs : List V} {us : List Value} (r : Vals xs us) {j : Nat} (h : j < us.toArray.size) : RelV (xs.getD j .non) us.toArray[j] := by
  have hl := r.length
  have hj : j < xs.length := by simpa [hl] using h
  obtain ⟨u, e, q⟩ := r.get (i := j) (x := xs[j]) (List.getElem?_eq_getElem hj)
  have e2 : us.toArray[j] = u := by
    rw [List.getElem?_eq_some_iff] at e
    obtain ⟨h', e⟩ := e
    simpa using e
  rw [e2, List.getD_eq_getElem?_getD, List.getElem?_eq_getElem hj]
  exact q
theorem call_isinst : CallR X (.builtin "isinstance") (fun xs H Q => ∃ x T t b, xs = [x, .ty T] ∧ TyOf X.K H x t ∧ PySem.W.kitOne X.K t (.type T) = some b ∧ Q (.bl b) H) := by
  intro pins s σ H xs us Q I r h
  obtain ⟨x, T, t, b, rfl, ty, e, q⟩ := h
  obtain ⟨u, w', rfl, r1, r2⟩ := vals2 r
  cases (show w' = Value.type T from r2)
  exact isinst_ok I r1 ty e fun tk => ⟨.bl b, H, I.tok tk, rfl, q⟩

theorem vals_of_get : ∀ {xs : List V} {us : List Value}, xs.length = us.length → (∀ (i : Nat) (v : V), xs[i]? = some v → ∃ u, us[i]? = some u ∧ RelV v u) → Vals xs us
  | [], [], _, _ => .nil
  | [], _ :: _, h, _ => by simp at h
  | _ :: _, [], h, _ => by simp at h
  | x :: xs, u :: us, h, g => by
    obtain ⟨u', e, r⟩ := g 0 x rfl
    have e' : u = u' := by simpa using e
    subst e'
    exact .cons r (vals_of_get (by simpa using h) fun i v hv => by
      obtain ⟨w, e2, r2⟩ := g (i + 1) v (by simpa using hv)
      exact ⟨w, by simpa using e2, r2⟩)

theorem pe_listrange {e : Expr} {te : TE} {p p1 p2 pos : Pos} (hc : X.calm = true) (hg : Gl X "list") (hm : X.mg "list" = none) (hgr : Gl X "range") (hmr : X.mg "range" = none) (he : PE X e te) (hs : starEach [e] X.env = [(false, eval e X.env)] := by rfl) :
    PE X (.Call (.Name "list" p) [.Call (.Name "range" p1) [e] [] p2] [] pos) (fun σ H Q => te σ H fun x H1 => ∃ j : Int, x = .int j ∧ -(2 ^ 24) ≤ j ∧ j ≤ 2 ^ 24 ∧ ∀ l, H1 l = none → Q (.ref l) (upd H1 l (.lst ((List.range j.toNat).map fun i => V.int (i : Nat))))) := by
  refine ⟨?_⟩
  intro pins s σ H Q I h
  refine wpAny_Call_Name_kw (ld_blt I hg hm (by decide +kernel : bootBuiltins "list" = some (.type "list")) ?_)
  refine PyProof.Rows.callWith_type1 ?_ rfl rfl
  show wpAny _ _ (spliced ((false, eval (.Call (.Name "range" p1) [e] [] p2) X.env) :: [])) _ _ s
  refine Calls.spliced_cons ?_
  refine Call_ (ld_blt I hgr hmr boot_range (PyProof.Rows.callWith_type1 ?_ hs rfl))
  rw [hs]
  refine Calls.spliced_cons (thn (he pins s σ H _ I h) fun v s1 ⟨x, H1, I1, r1, q1⟩ => Calls.spliced_nil ?_)
  obtain ⟨j, rfl, b1, b2, q⟩ := q1
  obtain ⟨t, rfl⟩ := r1
  refine call_range_1 ?_
  refine Calls.spliced_nil ?_
  refine call_list_range (n := j.toNat) (I1.ok.hd hc) (IsRange.new ..) (small_one (by omega) (by omega) (by omega) (by omega)) (by rw [PyProof.Rows.rangeSize_nat]; simp) (by omega) fun h' tk acc' c' hk hS hit => ?_
  have I2 : Inv X pins σ H1 { s1 with heap := s1.heap.push { cls := .type "range", data := .fields #[.int 0 s1.toks, .int j t, .int 1 (s1.toks + 1)] }, toks := s1.toks + 1 + 1 } := I1.kept fun b o e => Heap.get?_push_of_some _ e
  obtain ⟨hsz, hat⟩ := hit
  have rv : Vals ((List.range j.toNat).map fun i => V.int (i : Nat)) acc'.toList := by
    refine vals_of_get (by simpa using hsz.symm) fun i v e => ?_
    rw [List.getElem?_map] at e
    cases q2 : (List.range j.toNat)[i]? with
    | none => rw [q2] at e; cases e
    | some k =>
      rw [q2] at e
      have ek : k = i := by
        obtain ⟨_, e3⟩ := List.getElem?_eq_some_iff.mp q2
        simpa using e3.symm
      have hi : i < acc'.size := by
        have := (List.getElem?_eq_some_iff.mp q2).1
        rw [List.length_range] at this
        omega
      obtain ⟨t2, e4⟩ := hat i acc'[i] (by simp [hi])
      refine ⟨acc'[i], by simp [hi], ?_⟩
      rw [e4]
      have e5 : v = V.int (k : Nat) := (Option.some.inj e).symm
      rw [e5, ek]
      exact ⟨t2, by simp⟩
  have ob : ObjOk X.prog X.w (upd H1 (s1.heap.push { cls := .type "range", data := .fields #[.int 0 s1.toks, .int j t, .int 1 (s1.toks + 1)] }).objs.size (.lst ((List.range j.toNat).map fun i => V.int (i : Nat)))) h' (s1.heap.push { cls := .type "range", data := .fields #[.int 0 s1.toks, .int j t, .int 1 (s1.toks + 1)] }).objs.size (.lst ((List.range j.toNat).map fun i => V.int (i : Nat))) := by
    refine ⟨?_, acc'.toList, c', rv, by simpa using hS⟩
    rw [List.length_map, List.length_range]
    exact Nat.le_trans (show j.toNat ≤ 2 ^ 24 by omega) (by decide)
  exact ⟨.ref _, _, I2.laid (t' := tk) hk (Nat.le_refl _) ob, rfl, q _ (I2.hok.fresh (Nat.le_refl _))⟩
end

def Keep (H H' : Hp) : Prop := ∀ b o, H b = some o → H' b = some o ∨ ∃ ps ps' : Array Value, o = .tbl ps ∧ H' b = some (.tbl ps') ∧ TriplesOk ps'.toList
theorem Keep.refl (H : Hp) : Keep H H := fun _ _ h => .inl h
theorem Keep.trans {H H1 H2 : Hp} (a : Keep H H1) (b : Keep H1 H2) : Keep H H2 := fun c o h => by
  rcases a c o h with z | ⟨ps, ps', e, z, t⟩
  · exact b c o z
  · rcases b c _ z with z2 | ⟨qs, qs', e2, z2, t2⟩
    · exact .inr ⟨ps, ps', e, z2, t⟩
    · exact .inr ⟨ps, qs', e, z2, t2⟩
theorem Keep.free {H H' : Hp} (e : Keep H H') {l : Addr} (h : H' l = Option.none) : H l = Option.none := by
  cases q : H l with
  | none => rfl
  | some o =>
    rcases e l o q with z | ⟨_, _, _, z, _⟩ <;> (rw [h] at z; cases z)
theorem Keep.get {H H' : Hp} (k : Keep H H') {b : Addr} {o : HO} (h : H b = some o) (n : ∀ ps, o ≠ .tbl ps) : H' b = some o := by
  rcases k b o h with z | ⟨ps, _, e, _⟩
  · exact z
  · exact absurd e (n ps)
theorem Keep.lst {H H' : Hp} (k : Keep H H') {b : Addr} {xs : List V} (h : H b = some (.lst xs)) : H' b = some (.lst xs) := k.get h (by intro ps z; cases z)
theorem Keep.tup {H H' : Hp} (k : Keep H H') {b : Addr} {xs : List V} (h : H b = some (.tup xs)) : H' b = some (.tup xs) := k.get h (by intro ps z; cases z)
theorem Keep.tb {H H' : Hp} (k : Keep H H') {P : Addr} (h : Tb P H) : Tb P H' := by
  obtain ⟨ps, e, t⟩ := h
  rcases k P _ e with z | ⟨_, ps', _, z, t'⟩
  · exact ⟨ps, z, t⟩
  · exact ⟨ps', z, t'⟩
theorem Keep.new {H : Hp} {p : Addr} (h : H p = none) (o : HO) : Keep H (upd H p o) := fun b u q => .inl (by rw [upd_ne (ne_of_none q h)]; exact q)
theorem Keep.tbl {H : Hp} {P : Addr} (h : Tb P H) {ps : Array Value} (t : TriplesOk ps.toList) : Keep H (upd H P (.tbl ps)) := fun b u q => by
  by_cases hb : b = P
  · subst hb
    obtain ⟨qs, e, _⟩ := h
    rw [e] at q; cases q
    exact .inr ⟨qs, ps, rfl, upd_same, t⟩
  · exact .inl (by rw [upd_ne hb]; exact q)

def KeepBut (a : Addr) (H H' : Hp) : Prop := ∀ b o, b ≠ a → H b = some o → H' b = some o ∨ ∃ ps ps' : Array Value, o = .tbl ps ∧ H' b = some (.tbl ps') ∧ TriplesOk ps'.toList
theorem Keep.but {H H' : Hp} (k : Keep H H') (a : Addr) : KeepBut a H H' := fun b o _ h => k b o h
theorem KeepBut.refl (a : Addr) (H : Hp) : KeepBut a H H := fun _ _ _ h => .inl h
theorem KeepBut.trans {a : Addr} {H H1 H2 : Hp} (x : KeepBut a H H1) (y : KeepBut a H1 H2) : KeepBut a H H2 := fun c o n h => by
  rcases x c o n h with z | ⟨ps, ps', e, z, t⟩
  · exact y c o n z
  · rcases y c _ n z with z2 | ⟨qs, qs', e2, z2, t2⟩
    · exact .inr ⟨ps, ps', e, z2, t⟩
    · exact .inr ⟨ps, qs', e, z2, t2⟩
theorem KeepBut.upd {a : Addr} {H : Hp} {o : HO} : KeepBut a H (upd H a o) := fun b u n q => .inl (by rw [upd_ne n]; exact q)
theorem KeepBut.get {a : Addr} {H H' : Hp} (k : KeepBut a H H') {b : Addr} {o : HO} (hb : b ≠ a) (h : H b = some o) (n : ∀ ps, o ≠ .tbl ps) : H' b = some o := by
  rcases k b o hb h with z | ⟨ps, _, e, _⟩
  · exact z
  · exact absurd e (n ps)
theorem KeepBut.lst {a : Addr} {H H' : Hp} (k : KeepBut a H H') {b : Addr} {xs : List V} (hb : b ≠ a) (h : H b = some (.lst xs)) : H' b = some (.lst xs) := k.get hb h (by intro ps z; cases z)
theorem KeepBut.tup {a : Addr} {H H' : Hp} (k : KeepBut a H H') {b : Addr} {xs : List V} (hb : b ≠ a) (h : H b = some (.tup xs)) : H' b = some (.tup xs) := k.get hb h (by intro ps z; cases z)

theorem KeepBut.keep {a : Addr} {H H' : Hp} (k : KeepBut a H H') (n : H a = none) : Keep H H' := fun b o h => k b o (fun z => by rw [z, n] at h; cases h) h
end L2

set_option Elab.async false
set_option maxRecDepth 100000
set_option maxHeartbeats 4000000
namespace L2
open PySem PySem.Spec PyProof.Rows

theorem bt_int : bootBuiltins "int" = some (.type "int") := by decide +kernel
theorem bt_str : bootBuiltins "str" = some (.type "str") := by decide +kernel
theorem bt_bool : bootBuiltins "bool" = some (.type "bool") := by decide +kernel
theorem bt_tuple : bootBuiltins "tuple" = some (.type "tuple") := by decide +kernel
theorem bt_min : bootBuiltins "min" = some (.builtin "min") := by decide +kernel
theorem bt_max : bootBuiltins "max" = some (.builtin "max") := by decide +kernel
theorem bt_abs : bootBuiltins "abs" = some (.builtin "abs") := by decide +kernel
theorem bt_isinstance : bootBuiltins "isinstance" = some (.builtin "isinstance") := by decide +kernel

structure Bl (mg : Str → Option Value) : Prop where
  len_ : mg "len" = none
  range_ : mg "range" = none
  min_ : mg "min" = none
  max_ : mg "max" = none
  abs_ : mg "abs" = none
  list_ : mg "list" = none
  tuple_ : mg "tuple" = none
  int_ : mg "int" = none
  str_ : mg "str" = none
  bool_ : mg "bool" = none
  isinstance_ : mg "isinstance" = none
  all_ : mg "all" = none
  set_ : mg "set" = none
  sorted_ : mg "sorted" = none
  zip_ : mg "zip" = none
  enumerate_ : mg "enumerate" = none
  sum_ : mg "sum" = none
  reversed_ : mg "reversed" = none
  divmod_ : mg "divmod" = none
  any_ : mg "any" = none
  ValueError_ : mg "ValueError" = none

structure Df (K : PySem.W.Frag) (mg : Str → Option Value) (x : Str) (st : Stmt) (ps : List Str) (f : Addr) (fd : FuncData) : Prop where
  fn : Fun K x x st f fd
  bd : Binds K fd ps []
  mg : mg x = some (.ref f)

structure DfC (base : Heap) (fd : FuncData) (c P : Addr) : Prop where
  code : fd.code = .ref c
  hd : PySem.W.CodeHd base c P
section
variable {P : Program} {w : World} {K : PySem.W.Frag} {mg : Str → Option Value} {base : Heap}
theorem Fun.okc {x qual : Str} {st : Stmt} {f : Addr} {fd : FuncData} {N ps : List Str} {k : Nat} {sp : Sp} (F : Fun K x qual st f fd) (S : FnScope N ps (defScope st)) (len : ∀ vs H Q E, sp vs H Q E → vs.length = ps.length)
    (hbody : ∀ (A : Around) (outer : List Env) (s : Shared) (H : Hp) (vs : List V) (Q : VK) (E : XK), Room k (A.deeper (envOfC qual (defScope st) s.heap.objs.size f fd.code)) → sp vs H Q E →
      ∃ t, PSs (cxOf CX0 P w K mg base N qual (defScope st) f fd.code A outer s H E).nox (defBody st) t ∧ t { nx := fun _ H' => Q .non H', rt := Q } (start N vs) H) : FnOk P w K mg base CX0 (k + 1) f fd ps sp := by
  obtain ⟨oc, od, kV, doc, pm, an, cdv, ct, osl, rfl, lk, hcd⟩ := F.ex
  refine fn_of lk hcd S len fun A outer s H vs Q E hr hsp => ?_
  obtain ⟨t, h, q⟩ := hbody A outer s H vs Q E hr hsp
  exact ⟨t, h.nox, q⟩
end

inductive Kd (H : Hp) : V → Prop where
  | non : Kd H .non
  | bl (b : Bool) : Kd H (.bl b)
  | int (i : Int) : Kd H (.int i)
  | str (x : Str) : Kd H (.str x)
  | lst {a : Addr} {xs : List V} (e : H a = some (.lst xs)) : Kd H (.ref a)
  | tup {a : Addr} {xs : List V} (e : H a = some (.tup xs)) : Kd H (.ref a)
theorem Kd.keep {H H' : Hp} {x : V} (k : Keep H H') (h : Kd H x) : Kd H' x := by
  cases h with
  | non => exact .non
  | bl b => exact .bl b
  | int i => exact .int i
  | str x => exact .str x
  | lst e => exact .lst (k.lst e)
  | tup e => exact .tup (k.tup e)
def Th (H : Hp) : Nat → V → Prop
  | 0, x => Kd H x
  | n + 1, x => Kd H x ∧ ∀ a ys, x = .ref a → H a = some (.tup ys) → ∀ y ∈ ys, Th H n y
theorem Th.kd {H : Hp} {n : Nat} {x : V} (h : Th H n x) : Kd H x := by
  cases n with
  | zero => exact h
  | succ n => exact h.1
theorem Th.keep {H H' : Hp} (k : Keep H H') : ∀ {n : Nat} {x : V}, Th H n x → Th H' n x
  | 0, _, h => Kd.keep k h
  | n + 1, x, h => ⟨h.1.keep k, fun a ys e e' y hy => by
    have q := h.1
    subst e
    cases q with
    | lst e2 => rw [k.lst e2] at e'; cases e'
    | tup e2 => rw [k.tup e2] at e'; cases e'; exact Th.keep k (h.2 a _ rfl e2 y hy)⟩

def below (m : Int) : V → Bool | .int i => decide (0 ≤ i) && decide (i < m) | _ => false
def rowB (H : Hp) (m : Int) (w : Nat) : V → Bool
  | .ref a => (match H a with | some (.tup ys) => decide (ys.length = w) && ys.all (below m) | _ => false)
  | _ => false
def netB (H : Hp) : V → Bool
  | .ref a => (match H a with | some (.tup rs) => decide (1 ≤ rs.length ∧ rs.length ≤ 9) && (rs.all (rowB H rs.length 2) || rs.all (rowB H rs.length 3)) | _ => false)
  | _ => false
def RowAt (H : Hp) (v : V) (row : List Int) : Prop := ∃ p, v = .ref p ∧ H p = some (.tup (row.map V.int))
def NetAt (H : Hp) (v : V) (net : List (List Int)) : Prop := ∃ a rs, v = .ref a ∧ H a = some (.tup rs) ∧ Paired (RowAt H) rs net
structure NetOk (net : List (List Int)) (w : Nat) : Prop where
  one : 1 ≤ net.length
  nine : net.length ≤ 9
  wid : w = 2 ∨ w = 3
  row : ∀ r ∈ net, r.length = w ∧ ∀ g ∈ r, 0 ≤ g ∧ g < (net.length : Int)
theorem RowAt.keep {H H' : Hp} (k : Keep H H') {v : V} {row : List Int} (h : RowAt H v row) : RowAt H' v row := let ⟨p, e, q⟩ := h; ⟨p, e, k.tup q⟩
theorem NetAt.keep {H H' : Hp} (k : Keep H H') {v : V} {net : List (List Int)} (h : NetAt H v net) : NetAt H' v net := let ⟨a, rs, e, q, r⟩ := h; ⟨a, rs, e, k.tup q, Paired.mapP r fun _ _ z => z.keep k⟩
theorem paired_mem {α β : Type} {F : α → β → Prop} : ∀ {xs : List α} {ys : List β}, Paired F xs ys → ∀ x ∈ xs, ∃ y ∈ ys, F x y
  | _, _, .nil, x, h => by simp at h
  | _, _, .cons f t, x, h => by
    rcases List.mem_cons.mp h with rfl | h
    · exact ⟨_, List.mem_cons_self, f⟩
    · obtain ⟨y, hy, q⟩ := paired_mem t x h
      exact ⟨y, List.mem_cons_of_mem _ hy, q⟩
theorem paired_get {α β : Type} {F : α → β → Prop} : ∀ {xs : List α} {ys : List β} {i : Nat} {y : β}, Paired F xs ys → ys[i]? = some y → ∃ x, xs[i]? = some x ∧ F x y
  | _, _, _, _, .nil, e => by simp at e
  | _, _, 0, _, .cons f _, e => by simp at e; subst e; exact ⟨_, rfl, f⟩
  | _, _, i + 1, y, .cons _ t, e => by
    obtain ⟨x, h1, h2⟩ := paired_get (i := i) (y := y) t (by simpa using e)
    exact ⟨x, by simpa using h1, h2⟩
theorem NetAt.th {H : Hp} {v : V} {net : List (List Int)} (h : NetAt H v net) : Th H 2 v := by
  obtain ⟨a, rs, rfl, q, r⟩ := h
  refine ⟨.tup q, fun a' ys e e' y hy => ?_⟩
  cases e
  rw [q] at e'; cases e'
  obtain ⟨row, _, p, rfl, z⟩ := paired_mem r y hy
  refine ⟨.tup z, fun a2 zs e2 e3 u hu => ?_⟩
  cases e2
  rw [z] at e3; cases e3
  obtain ⟨g, _, rfl⟩ := List.mem_map.mp hu
  exact .int g
theorem NetAt.ok {H : Hp} {v : V} {net : List (List Int)} {w : Nat} (h : NetAt H v net) (o : NetOk net w) : netB H v = true := by
  obtain ⟨a, rs, rfl, q, r⟩ := h
  have hl := r.length
  have rows : rs.all (rowB H rs.length w) = true := by
    rw [List.all_eq_true]
    intro x hx
    obtain ⟨row, hr, p, rfl, z⟩ := paired_mem r x hx
    obtain ⟨o1, o2⟩ := o.row row hr
    simp only [rowB, z, List.length_map, o1, decide_true, Bool.true_and]
    rw [List.all_eq_true]
    intro u hu
    obtain ⟨g, hg, rfl⟩ := List.mem_map.mp hu
    obtain ⟨g1, g2⟩ := o2 g hg
    simp only [below]
    rw [decide_eq_true g1, decide_eq_true (by rw [hl]; exact g2)]
    rfl
  simp only [netB, q]
  have h1 : 1 ≤ rs.length ∧ rs.length ≤ 9 := by rw [hl]; exact ⟨o.one, o.nine⟩
  rw [decide_eq_true h1]
  rcases o.wid with rfl | rfl
  · rw [rows]; rfl
  · rw [rows]; simp
def TbAll (tb : List Addr) (H : Hp) : Prop := ∀ p ∈ tb, Tb p H
theorem TbAll.keep {tb : List Addr} {H H' : Hp} (k : Keep H H') (h : TbAll tb H) : TbAll tb H' := fun p hp => k.tb (h p hp)

def BagAt (H : Hp) (b : Addr) : Prop := ∃ c m : Int, H b = some (.lst [.int c, .int m]) ∧ 0 ≤ c ∧ 0 ≤ m
end L2

set_option Elab.async false
set_option maxRecDepth 100000
set_option maxHeartbeats 4000000
namespace L2
open PySem PySem.Spec PyProof.Rows

def Runs (J : It) (ys : List V) (H : Hp) : Prop := ∀ i, (i < ys.length → J.go i H ∧ ∀ x H', J.yld i H x H' → H' = H ∧ ys[i]? = some x) ∧ (ys.length ≤ i → J.stop i H)
def signsV (z : Str) : List V := z.cps.toList.map fun c => .str ⟨#[c]⟩
theorem runs_tup {K : PySem.W.Frag} {a : Addr} {ys : List V} {H : Hp} (h : SqT K H a ys) : Runs (Itt K a) ys H := fun i =>
  ⟨fun hi => ⟨⟨ys, ys[i], h, List.getElem?_eq_getElem hi⟩, fun x H' y => ⟨y.1, y.2 ys h⟩⟩, fun hi => ⟨ys, h, hi⟩⟩
theorem runs_list {K : PySem.W.Frag} {a : Addr} {ys : List V} {H : Hp} (h : SqL K H a ys) : Runs (Itl K a) ys H := fun i =>
  ⟨fun hi => ⟨⟨ys, ys[i], h, List.getElem?_eq_getElem hi⟩, fun x H' y => ⟨y.1, y.2 ys h⟩⟩, fun hi => ⟨ys, h, hi⟩⟩
theorem runs_range {lo : Int} {n : Nat} {H : Hp} : Runs (Itr lo n) ((List.range n).map fun i => V.int (lo + (i : Nat))) H := fun i => by
  have el : ((List.range n).map fun i => V.int (lo + (i : Nat))).length = n := by simp
  rw [el]
  refine ⟨fun hi => ⟨hi, fun x H' y => ?_⟩, fun hi => hi⟩
  obtain ⟨e1, e2⟩ := y
  refine ⟨e1, ?_⟩
  rw [e2, List.getElem?_map, List.getElem?_range hi]
  rfl
theorem signsV_len (z : Str) : (signsV z).length = z.length := by
  unfold signsV
  rw [List.length_map]
  rfl
theorem runs_str {z : Str} {H : Hp} : Runs (Its z) (signsV z) H := fun i =>
  ⟨fun hi => ⟨by rw [signsV_len] at hi; exact hi, fun x H' y => by
    obtain ⟨e, c, hc, rfl⟩ := y
    refine ⟨e, ?_⟩
    unfold signsV
    rw [List.getElem?_map, Array.getElem?_toList, hc]
    rfl⟩, fun hi => by rw [signsV_len] at hi; exact hi⟩

theorem set0 {τ : St} {x y : Option V} : (τ.set 0 x).set 0 y = τ.set 0 y := by
  cases τ <;> rfl

theorem tturn_of {J : It} {xs : List V} {tt : TT} {te : TE} {Q : VK} {H0 : Hp} {τ0 : St} {D : Addr} (Pv : Nat → List V → Hp → Prop) (hJ : ∀ i acc H, i ≤ xs.length → Pv i acc H → Runs J xs H) (h0 : Pv 0 [] H0)
    (hs : ∀ (i : Nat) (x : V) acc H, xs[i]? = some x → Pv i acc H → ∀ (R1 : Hp → Prop) (R2 : VK), (∀ y H4, H4 D = some (.lst acc) → acc.length < sizeLine → Pv (i + 1) (acc ++ [y]) (upd H4 D (.lst (acc ++ [y]))) → R2 y H4) → (∀ H3, Pv (i + 1) acc H3 → R1 H3) →
      tt (τ0.set 0 (some x)) H fun b H3 => if b = true then te (τ0.set 0 (some x)) H3 R2 else R1 H3)
    (hd : ∀ acc H, Pv xs.length acc H → Q (.ref D) H) :
    ∃ W : Nat → Nat → St → Hp → Prop, (∃ m, W 0 m τ0 H0) ∧ tTurn J (gName 0) tt te D Q W := by
  refine ⟨fun i m τ H => m = xs.length - i ∧ i ≤ xs.length ∧ (∀ v, τ.set 0 v = τ0.set 0 v) ∧ ∃ acc, Pv i acc H, ⟨xs.length, by simp, Nat.zero_le _, fun _ => rfl, [], h0⟩, ?_⟩
  rintro i m τ H ⟨rfl, hi, hτ, acc, p⟩
  by_cases hlt : i < xs.length
  · obtain ⟨g1, g2⟩ := (hJ i acc H hi p i).1 hlt
    refine .inr ⟨g1, fun x H' y => ?_⟩
    obtain ⟨e, hx⟩ := g2 x H' y
    subst e
    dsimp only [gName]
    rw [hτ]
    exact hs i x acc _ hx p _ _ (fun v H4 z1 z2 z3 => ⟨acc, xs.length - (i + 1), z1, z2, by omega, rfl, hlt, fun v => set0, _, z3⟩) fun H3 z => ⟨xs.length - (i + 1), by omega, rfl, hlt, fun v => set0, acc, z⟩
  · have e : i = xs.length := by omega
    subst e
    exact .inl ⟨(hJ _ acc H hi p _).2 (Nat.le_refl _), hd acc H p⟩

theorem tturn0 {J : It} {xs : List V} {te : TE} {Q : VK} {H0 : Hp} {τ0 : St} {D : Addr} (Pv : Nat → List V → Hp → Prop) (hJ : ∀ i acc H, i ≤ xs.length → Pv i acc H → Runs J xs H) (h0 : Pv 0 [] H0)
    (hs : ∀ (i : Nat) (x : V) acc H, xs[i]? = some x → Pv i acc H → ∀ R2 : VK, (∀ y H4, H4 D = some (.lst acc) → acc.length < sizeLine → Pv (i + 1) (acc ++ [y]) (upd H4 D (.lst (acc ++ [y]))) → R2 y H4) → te (τ0.set 0 (some x)) H R2)
    (hd : ∀ acc H, Pv xs.length acc H → Q (.ref D) H) :
    ∃ W : Nat → Nat → St → Hp → Prop, (∃ m, W 0 m τ0 H0) ∧ tTurn J (gName 0) tNoIf te D Q W :=
  tturn_of (tt := tNoIf) Pv hJ h0 (fun i x acc H hx p R1 R2 h2 h1 => by dsimp only [tNoIf]; rw [if_pos rfl]; exact hs i x acc H hx p R2 h2) hd

theorem for_of {J : It} {xs : List V} {g : TG} {tb : TS} {D : Ends} {σ : St} {H : Hp} (Pv : Nat → St → Hp → Prop) (h0 : Pv 0 σ H) (hJ : ∀ i σ H, i ≤ xs.length → Pv i σ H → Runs J xs H)
    (hs : ∀ i x σ H, xs[i]? = some x → Pv i σ H → g x σ H fun σ2 H2 => tb { D with nx := Pv (i + 1), ct := Pv (i + 1), bk := D.nx } σ2 H2) (hd : ∀ σ H, Pv xs.length σ H → D.nx σ H) :
    ∃ W : Nat → Nat → St → Hp → Prop, (∃ m, W 0 m σ H) ∧ ∀ i m σ H, W i m σ H →
      (J.stop i H ∧ D.nx σ H) ∨ (J.go i H ∧ ∃ N : St → Hp → Prop, (∀ σ' H', N σ' H' → ∃ m', m' < m ∧ W (i + 1) m' σ' H') ∧ ∀ x H', J.yld i H x H' → g x σ H' fun σ2 H2 => tb { D with nx := N, ct := N, bk := D.nx } σ2 H2) := by
  refine ⟨fun i m σ H => m = xs.length - i ∧ i ≤ xs.length ∧ Pv i σ H, ⟨xs.length, by simp, Nat.zero_le _, h0⟩, ?_⟩
  rintro i m σ H ⟨rfl, hi, p⟩
  by_cases hlt : i < xs.length
  · obtain ⟨g1, g2⟩ := (hJ i σ H hi p i).1 hlt
    refine .inr ⟨g1, Pv (i + 1), fun σ' H' p' => ⟨xs.length - (i + 1), by omega, rfl, hlt, p'⟩, fun x H' y => ?_⟩
    obtain ⟨e, hx⟩ := g2 x H' y
    subst e
    exact hs i x σ _ hx p
  · have e : i = xs.length := by omega
    subst e
    exact .inl ⟨(hJ _ σ H hi p _).2 (Nat.le_refl _), hd σ H p⟩
end L2

set_option Elab.async false
set_option maxRecDepth 100000
set_option maxHeartbeats 4000000
namespace L2
open PySem PySem.Spec PyProof.Rows

def Ho (X : Cx) (st : List Stmt) (Pre : St → Hp → Prop) (D : Ends) : Prop := ∃ u, PSs X st u ∧ ∀ σ H, Pre σ H → u D σ H
def Hs (X : Cx) (st : Stmt) (Pre Mid : St → Hp → Prop) (D : Ends) : Prop := ∃ t, PS X st t ∧ ∀ (N : St → Hp → Prop) σ H, Pre σ H → (∀ σ' H', Mid σ' H' → N σ' H') → t { D with nx := N } σ H
theorem Ho.cons {X : Cx} {st : Stmt} {rest : List Stmt} {Pre : St → Hp → Prop} {D : Ends} (Mid : St → Hp → Prop) (h1 : Hs X st Pre Mid D) (h2 : Ho X rest Mid D) : Ho X (st :: rest) Pre D := by
  obtain ⟨t, ht, q⟩ := h1
  obtain ⟨u, hu, r⟩ := h2
  exact ⟨tSeq t u, pss_cons ht hu, fun σ H p => q (u D) σ H p r⟩
theorem Ho.last {X : Cx} {st : Stmt} {Pre : St → Hp → Prop} {D : Ends} (h : ∃ t, PS X st t ∧ ∀ σ H, Pre σ H → t D σ H) : Ho X [st] Pre D := by
  obtain ⟨t, ht, q⟩ := h
  exact ⟨t, pss_one ht, q⟩
theorem Ho.nil {X : Cx} {Pre : St → Hp → Prop} {D : Ends} (h : ∀ σ H, Pre σ H → D.nx σ H) : Ho X [] Pre D := ⟨tNext, pss_nil, h⟩

theorem Ho.run {X : Cx} {st : List Stmt} {Pre : St → Hp → Prop} {D : Ends} {σ : St} {H : Hp} (p : Pre σ H) (h : Ho X st Pre D) : ∃ t, PSs X st t ∧ t D σ H := by
  obtain ⟨u, hu, r⟩ := h
  exact ⟨u, hu, r σ H p⟩

theorem BagAt.keep {H H' : Hp} (k : Keep H H') {b : Addr} (h : BagAt H b) : BagAt H' b := let ⟨c, m, e, r⟩ := h; ⟨c, m, k.lst e, r⟩
theorem atI_ints {ns : List Int} {i : Int} (h0 : 0 ≤ i) (h1 : i < (ns.length : Nat)) : ∃ v : Int, atI (ns.map V.int) i = some (.int v) ∧ ns[i.toNat]? = some v := by
  have hj : i.toNat < ns.length := by omega
  have e : i = ((i.toNat : Nat) : Int) := by omega
  refine ⟨ns[i.toNat], ?_, List.getElem?_eq_getElem hj⟩
  have := atI_nat (xs := ns.map V.int) (j := i.toNat) (v := V.int ns[i.toNat]) (by rw [List.getElem?_map, List.getElem?_eq_getElem hj]; rfl)
  rw [← e] at this
  exact this
end L2

set_option Elab.async false
set_option maxRecDepth 100000
set_option maxHeartbeats 4000000
namespace L2
open PySem PySem.Spec PyProof.Rows

section
variable {X : Cx} {K : PySem.W.Frag}
theorem ix_listK (h : X.K = K) : IxR X (rIxL K) := h ▸ ix_list
theorem ix_seqK (h : X.K = K) : IxR X (rIx K) := h ▸ ix_seq
theorem call_len_seqK (h : X.K = K) : CallR X (.builtin "len") (fun xs H Q => ∃ p ys, xs = [.ref p] ∧ (SqL K H p ys ∨ SqT K H p ys) ∧ Q (.int ys.length) H) := h ▸ call_len_seq
theorem call_lenK (h : X.K = K) : CallR X (.builtin "len") (fun xs H Q => ∃ x n, xs = [x] ∧ LenV K x H n ∧ Q (.int n) H) := h ▸ call_len
theorem call_tuple_ofK (h : X.K = K) : CallR X (.type "tuple") (fun xs H Q => ∃ p ys, xs = [.ref p] ∧ ((SqL K H p ys ∧ ∀ l, H l = none → Q (.ref l) (upd H l (.tup ys))) ∨ (SqT K H p ys ∧ Q (.ref p) H))) := h ▸ call_tuple_of
theorem call_isinstK (h : X.K = K) : CallR X (.builtin "isinstance") (fun xs H Q => ∃ x T t b, xs = [x, .ty T] ∧ TyOf K H x t ∧ PySem.W.kitOne K t (.type T) = some b ∧ Q (.bl b) H) := h ▸ call_isinst
theorem pi_listK {tg l : Expr} {tl : TE} (h : X.K = K) (hl : PE X l tl) : PI X tg l (iList K tl) := h ▸ pi_list hl
theorem pi_tupK {tg l : Expr} {tl : TE} (h : X.K = K) (hl : PE X l tl) : PI X tg l (iTup K tl) := h ▸ pi_tup hl
variable {o e : Expr} {es : List Expr} {to : TE} {t : TA} {name : Str} {apos cpos : Pos} {T id : String} {r : V → List V → Hp → VK → Prop}
theorem pe_bmK (h : X.K = K) (pa : PlainAttrs T) (slot : Slot T name id) (hty : typeOf (.builtin id) = pure (.type "method_descriptor")) (hm : MtR X id r) (ho : PE X o to) (ha : PA X (e :: es) t) (hbase : attributeBase o name X.env (eval o X.env) = eval o X.env := by rfl)
    (hfew : ((backTo cpos (starEach (e :: es) X.env)).all (fun x => !x.1) && (backToKw cpos (keywordEach [] X.env)).all (fun x => x.1.isSome)
      && decide ((e :: es).length + ([] : List Keyword).length + (if ([] : List Keyword).isEmpty then 0 else 1) < 30)) = true := by rfl)
    (hline : (apos.endLine == cpos.line) = true := by rfl) (hs : starEach (e :: es) X.env = (false, eval e X.env) :: starEach es X.env := by rfl) (hplain : (backTo cpos (starEach es X.env)).any (·.1) = false := by rfl) :
    PE X (.Call (.Attribute o name apos) (e :: es) [] cpos) (tBM K T r to t) := h ▸ pe_bm pa slot hty hm ho ha hbase hfew hline hs hplain
end
end L2

set_option Elab.async false
set_option maxRecDepth 100000
set_option maxHeartbeats 4000000
namespace L2
open PySem PySem.Spec PyProof.Rows
end L2

set_option Elab.async false
set_option maxRecDepth 100000
set_option maxHeartbeats 4000000
namespace L2
open PySem PySem.Spec PyProof.Rows

abbrev DefIn (K : PySem.W.Frag) (x : Str) (st : Stmt) : Prop :=
  ∃ (f : Addr) (oc : Value) (od : Option Addr) (sl : Array (Option Value)) (kV dc pm : Value) (an : Option Addr) (cd ct : Value),
    PySem.W.nsIn K mainGlobals x = some (some (.ref f)) ∧ K.lookup f = some ⟨oc, od, .func (PySem.W.fnOf x x (defArgs st) (defBody st) (defScope st) .none kV dc pm an cd ct), sl⟩ ∧ PySem.W.codeIn K cd x = true ∧ PySem.W.keepIn K (.ref f) = true
theorem defIn_mk {K : PySem.W.Frag} {x : Str} {st : Stmt} {f : Addr} {oc : Value} {od : Option Addr} {sl : Array (Option Value)} {kV dc pm : Value} {an : Option Addr} {cd ct : Value} (a : PySem.W.nsIn K mainGlobals x = some (some (.ref f)))
    (l : K.lookup f = some ⟨oc, od, .func (PySem.W.fnOf x x (defArgs st) (defBody st) (defScope st) .none kV dc pm an cd ct), sl⟩) (c : PySem.W.codeIn K cd x = true) (k : PySem.W.keepIn K (.ref f) = true) : DefIn K x st := ⟨f, oc, od, sl, kV, dc, pm, an, cd, ct, a, l, c, k⟩
theorem strIn_mk {K : PySem.W.Frag} {x : Str} {z : Str} {tk : Tok} (a : PySem.W.nsIn K mainGlobals x = some (some (.str z tk))) : ∃ tk, PySem.W.nsIn K mainGlobals x = some (some (.str z tk)) := ⟨tk, a⟩
theorem intIn_mk {K : PySem.W.Frag} {x : Str} {z : Int} {tk : Tok} (a : PySem.W.nsIn K mainGlobals x = some (some (.int z tk))) : ∃ tk, PySem.W.nsIn K mainGlobals x = some (some (.int z tk)) := ⟨tk, a⟩
section
variable {K : PySem.W.Frag} {mg : Str → Option Value} {h base : Heap}
theorem DefIn.df {x : Str} {st : Stmt} (d : DefIn K x st) (X : K.In h) (G : h.Ns mainGlobals mg) (ps : List Str)
    (hb : ∀ (kV doc pm : Value) (an : Option Addr) (cdv ct : Value) (us : List Value), us.length = ps.length → bindArgs (PySem.W.fnOf x x (defArgs st) (defBody st) (defScope st) .none kV doc pm an cdv ct) ⟨us, []⟩ = pure (ps.zip us)) :
    ∃ f fd, Df K mg x st ps f fd := by
  obtain ⟨f, oc, od, sl, kV, dc, pm, an, cd, ct, a, l, c, k⟩ := d
  have F := fun_mk (st := st) l c k
  exact ⟨f, _, F, F.binds hb, PySem.W.mg_of X G a⟩

theorem dfc_of {x : Str} {st : Stmt} {ps : List Str} {f p : Addr} {fd : FuncData} (D : Df K mg x st ps f fd) (X : K.In h)
    (t : ∃ f o fd c, mg x = some (.ref f) ∧ h.get? f = some o ∧ o.data = .func fd ∧ fd.code = .ref c ∧ PySem.W.CodeHd h c p) (tr : ∀ c p, PySem.W.CodeHd h c p → PySem.W.CodeHd base c p) : ∃ c, DfC base fd c p := by
  obtain ⟨f', o, fd', c, e1, e2, e3, e4, e5⟩ := t
  obtain ⟨oc, od, kV, doc, pm, an, cdv, ct, osl, rfl, lk, hcd⟩ := D.fn.ex
  have e := D.mg.symm.trans e1
  cases e
  have q := (X _ _ lk).symm.trans e2
  cases q
  cases e3
  exact ⟨c, e4, tr _ _ e5⟩
theorem Df.bind1 {x y : Str} {st : Stmt} {f : Addr} {fd : FuncData} (D : Df K mg x st [y] f fd) (s : Shared) (v : Value)
    (hb : ∀ (kV doc pm : Value) (an : Option Addr) (cdv ct : Value) (u : Value), bindArgs (PySem.W.fnOf x x (defArgs st) (defBody st) (defScope st) .none kV doc pm an cdv ct) ⟨[u], []⟩ = pure [(y, u)]) : BindsTo s fd ⟨[v], []⟩ [(y, v)] := by
  obtain ⟨oc, od, kV, doc, pm, an, cdv, ct, osl, rfl, lk, hcd⟩ := D.fn.ex
  exact .of_eq (hb kV doc pm an cdv ct v)
theorem paired_cons {α β : Type} {F : α → β → Prop} {a : α} {r : List α} {t : List β} (h : Paired F (a :: r) t) : ∃ b t', t = b :: t' ∧ F a b ∧ Paired F r t' := by
  cases h with
  | cons x y => exact ⟨_, _, rfl, x, y⟩
theorem recs_of {q : Program} {nms : List Str} (h : (nms.all fun y => (recsOf q).any fun r => decide (r.name = y)) = true) : ∀ y ∈ nms, ∃ r ∈ recsOf q, r.name = y := fun y hy => by
  have := List.all_eq_true.mp h y hy
  obtain ⟨r, hr, e⟩ := List.any_eq_true.mp this
  exact ⟨r, hr, of_decide_eq_true e⟩
end
end L2

set_option Elab.async false
set_option maxRecDepth 100000
set_option maxHeartbeats 4000000
namespace L2
open PySem PySem.Spec PyProof.Rows

abbrev Taker := V → Hp → (Hp → Prop) → Prop
section
variable {Y : Cx} {A2 : Around} {tg elt iter : Expr} {ifs : List Expr} {scope : Scope} {pos : Pos} {it : Addr} {fp : List Addr} {tnn : Nat → Heap → Prop} {J : It} {g : TG} {tt : TT} {te : TE} {pp : List (Addr × Obj)} {R : GenEnd} {Yp : Protocol}
def tGenV (J : It) (g : TG) (tt : TT) (te : TE) (C : Taker) (Z : Hp → Prop) (W : Nat → Nat → St → Hp → Prop) : Prop := ∀ i m τ H, W i m τ H →
  (J.stop i H ∧ Z H) ∨ (J.go i H ∧ ∀ x H', J.yld i H x H' → g x τ H' fun τ2 H2 => tt τ2 H2 fun b H3 => if b = true then te τ2 H3 fun y H4 => C y H4 fun H5 => ∃ m', m' < m ∧ W (i + 1) m' τ2 H5 else ∃ m', m' < m ∧ W (i + 1) m' τ2 H3)
theorem seg_loopV (hA : Y.A = A2.over (.compLoop (.GeneratorExp elt [⟨tg, iter, ifs, 0⟩] scope pos) 0 (.ref it) .none Y.env) []) (hxe : Y.xe = fun _ _ => False) (hc : Y.calm = true) (hco : Y.env.scope.isCoroutine = false)
    (T : Turn Y.prog Y.w Y.K tg J fp it tnn) (hg : PG Y tg g) (ht : PIf Y ifs tt) (he : PE Y elt te) (stat : ∀ {H' : Hp}, (∀ b ∈ fp, H' b = none) → ∀ b ∈ fp, FpOk Y pp H' b)
    {W : Nat → Nat → St → Hp → Prop} {C : Taker} {Z : Hp → Prop} (turn : tGenV J g tt te C Z W)
    (hR : ∀ n s₀ s₁ τ H, Inv Y pp τ H s₁ → Z H → R n s₀ (.ok .next) s₁)
    (hY : ∀ n s₀ s kap y v τ H pl (N : Hp → Prop), RelV y v → Inv Y (pp ++ pl) τ H s → C y H N → (∀ H5 s'', Inv Y (pp ++ pl) τ H5 s'' → N H5 → kap (.send .none) s'') → Yp n s₀ v s kap) :
    ∀ (m n i : Nat) (τ : St) (H : Hp) (s s₀ : Shared), m < n → W i m τ H → Inv Y pp τ H s → tnn i s.heap → (∀ b ∈ fp, H b = none) →
      Seg (model Y.prog Y.w) A2 R Yp n s₀ (.compLoop (.GeneratorExp elt [⟨tg, iter, ifs, 0⟩] scope pos) 0 (.ref it) .none Y.env)
        ((model Y.prog Y.w).den (.compLoop (.GeneratorExp elt [⟨tg, iter, ifs, 0⟩] scope pos) 0 (.ref it) .none Y.env)) [] s := by
  intro m
  induction m using Nat.strongRecOn with
  | ind m ih =>
    intro n i τ H s s₀ hmn w I st fr
    show Seg _ A2 _ _ _ s₀ _ ((compTurn (.GeneratorExp elt [⟨tg, iter, ifs, 0⟩] scope pos) 0 (.ref it) .none Y.env).onRaise (leaving Y.env)) [] s
    rw [compTurn_gen, Sem.onRaise_eq_wrap]
    rcases turn i m τ H w with ⟨stop, qn⟩ | ⟨go, step⟩
    · refine seg_bind_wrap (wpAny_standAt ?_)
      have d := T.done Y rfl rfl rfl hc i pp s τ H (fun _ _ => False) I (stat fr) st stop
      rw [hA] at d
      refine seg_bind_wrap (wpAny_mono d (fun r s1 ⟨hr, I1⟩ => ?_) fun _ _ z => z.elim)
      subst hr
      exact seg_end (.ok .next) (hR _ _ _ _ _ I1 qn)
    · refine seg_bind_wrap (wpAny_standAt ?_)
      have d := T.item Y rfl rfl rfl hc i pp s τ H (fun _ _ => False) I (stat fr) st go
      rw [hA] at d
      refine seg_bind_wrap (wpAny_mono d (fun r s4 ⟨u, hr, h4⟩ => ?_) fun _ _ z => z.elim)
      subst hr
      refine seg_bind_wrap (wpAny_mono h4 (fun _ s5 ⟨x, H5, I5, r5, y5, st5, fr5⟩ => ?_) fun _ _ z => z.elim)
      have I5' := I5.pinned (stat fr5) (T.obj _ _ st5)
      have back : ∀ {τ7 : St} {H7 : Hp} {s7 : Shared}, Inv Y (pp ++ pinsAt fp s5.heap) τ7 H7 s7 → tnn (i + 1) s7.heap ∧ ∀ b ∈ fp, H7 b = none := fun {τ7 H7 s7} I7 => by
        refine ⟨T.keep _ _ _ st5 fun b hb o e => (I7.pin (b, o) (List.mem_append_right _ (List.mem_append_right _ (mem_pinsAt hb e)))).1, fun b hb => ?_⟩
        obtain ⟨o, e, d⟩ := T.obj _ _ st5 b hb
        exact (I7.pin (b, o) (List.mem_append_right _ (List.mem_append_right _ (mem_pinsAt hb e)))).2.1
      have d2 := hg _ s5 τ H5 x u _ I5' r5 (step x H5 y5)
      rw [hA, hxe] at d2
      refine seg_bind_wrap (wpAny_mono d2 (fun _ s6 ⟨τ6, H6, I6, q6⟩ => ?_) fun _ _ z => z.elim)
      have d3 := ht _ s6 τ6 H6 _ I6 q6
      rw [hA, hxe] at d3
      refine seg_bind_wrap (wpAny_mono d3 (fun ok s7 ⟨H7, I7, q7⟩ => ?_) fun _ _ z => z.elim)
      have hy : ∀ v, yieldOut Y.env v = yieldValue v := fun v => by simp only [yieldOut, hco, Bool.false_eq_true, if_false]
      cases ok with
      | false =>
        simp only [Bool.false_eq_true, if_false] at q7 ⊢
        obtain ⟨m', hm', w7⟩ := q7
        exact seg_again rfl (ih m' hm' n (i + 1) τ6 H7 s7 s₀ (by omega) w7 I7.unpinned (back I7).1 (back I7).2)
      | true =>
        simp only [if_true] at q7 ⊢
        simp only [hy]
        rw [Sem.bind_eq_wrap', Sem.bind_eq_wrap', Sem.wrap_wrap, Sem.wrap_wrap]
        have d4 := he _ s7 τ6 H7 _ I7 q7
        rw [hA, hxe] at d4
        refine seg_wrap (wpAny_mono d4 (fun yv s8 ⟨y, H8, I8, r8, q8⟩ => ?_) fun _ _ z => z.elim)
        obtain ⟨n, rfl⟩ : ∃ n', n = n' + 1 := ⟨n - 1, by omega⟩
        refine seg_at (seg_yield rfl rfl rfl (hY _ _ _ _ y yv τ6 H8 _ _ r8 I8 q8 fun H9 s'' I9 ⟨m', hm', w8⟩ => ?_))
        exact seg_again rfl (ih m' hm' n (i + 1) τ6 H9 s'' s'' (by omega) w8 I9.unpinned (back I9).1 (back I9).2)
end

section
variable {X : Cx} {tg elt iter : Expr} {ifs : List Expr} {scope : Scope} {pos : Pos} {N' : List Str} {tn : Nat} {idx : List Nat} {wi : TI} {g : TG} {tt : TT} {te : TE} {c P : Addr} {k : Nat}

def GIn (X Y : Cx) (pp : List (Addr × Obj)) (gn : Nat) (C : Taker) (Z : Hp → Prop) (n : Nat) (H : Hp) (s : Shared) : Prop :=
  ∃ τ pl gs, Inv Y (pp ++ pl) τ H s ∧ s.gens[gn]? = some gs ∧ ∀ s'', Inv Y (pp ++ pl) τ H s'' → gs.Goes (model X.prog X.w) X.A.in4.in1 (fun _ _ r s₁ => r = .ok .next ∧ ∃ τ H, Inv Y pp τ H s₁ ∧ Z H)
    (fun _ _ v s kap => ∃ y τ H pl N, RelV y v ∧ Inv Y (pp ++ pl) τ H s ∧ C y H N ∧ ∀ H5 s'', Inv Y (pp ++ pl) τ H5 s'' → N H5 → kap (.send .none) s'') n (.send .none) s''
theorem gnext {pins : List (Addr × Obj)} {σ : St} {J : It} {H3 : Hp} {a : Addr} {s5 : Shared} {Y : Cx} {it : Addr} {fp : List Addr} {tnn : Nat → Heap → Prop} {gn : Nat} {pp : List (Addr × Obj)} {C : Taker} {Z : Hp → Prop} {n : Nat} {H : Hp} {s : Shared} {E : Value → Shared → Prop}
    (hr : Room (k + 1) X.A) (G : GenL X pins σ N' scope tn idx k elt tg iter ifs pos J H3 a s5 Y it fp tnn gn pp) (h : GIn X Y pp gn C Z n H s) :
    wpAny (model X.prog X.w) X.A.in4 (pyNext (.ref a)) (fun r s1 => match r with
      | none => ∃ H1, Inv X pins σ H1 s1 ∧ Z H1
      | some v => ∃ y τ H1 pl N, RelV y v ∧ Inv Y (pp ++ pl) τ H1 s1 ∧ C y H1 N ∧ ∀ H2 s2, Inv Y (pp ++ pl) τ H2 s2 → s2.gens = s1.gens → N H2 → ∃ m, m < n ∧ GIn X Y pp gn C Z m H2 s2) E s := by
  obtain ⟨τ, pl, gs, I6, hgs, hgo⟩ := h
  refine wpAny_pyNext_genexpQ (A := X.A.in4) (P := fun _ _ s₁ => ∃ τ H, Inv Y pp τ H s₁ ∧ Z H) hr.hd I6.nolimit hr.depth (G.isg I6.unpinned) hgs (hgo _ (I6.okay ⟨rfl, rfl, setGen_gn I6.bare rfl⟩)) (fun v s1 gs' hb hv => ?_) (fun s1 hp h' hk => ?_)
  · obtain ⟨y, τ1, H1, pl1, N, r1, I1, c1, z2⟩ := hv
    have ok1 : Okay s1 (s1.setGen gn gs') := ⟨rfl, rfl, setGen_gn I1.bare hb⟩
    refine ⟨y, τ1, H1, pl1, N, r1, I1.okay ok1, c1, fun H2 s2 I2 e2 n2 => ?_⟩
    have z3 := z2 H2 s2 I2 n2
    cases n with
    | zero => exact z3.elim
    | succ m => exact ⟨m, Nat.lt_succ_self _, τ1, pl1, gs', I2, by rw [e2]; exact setGen_at (G.gsz I1.unpinned), fun s'' I3 => z2 H2 s'' I3 n2⟩
  · obtain ⟨τ1, H1, I1, z1⟩ := hp
    have I2 := I1.kept (t' := s1.toks) hk
    have ok2 : Okay { s1 with heap := h' } { s1.setGen gn .finished with heap := h' } := ⟨rfl, rfl, setGen_gn (s := s1) I1.bare rfl⟩
    exact ⟨H1, G.out (I2.okay ok2), z1⟩
theorem gin_start {pins : List (Addr × Obj)} {σ : St} {J : It} {H3 : Hp} {a : Addr} {s5 : Shared} {Y : Cx} {it : Addr} {fp : List Addr} {tnn : Nat → Heap → Prop} {gn : Nat} {pp : List (Addr × Obj)} {C : Taker} {Z : Hp → Prop} {W : Nat → Nat → St → Hp → Prop} {m0 : Nat} {H4 : Hp} {s6 : Shared}
    (G : GenL X pins σ N' scope tn idx k elt tg iter ifs pos J H3 a s5 Y it fp tnn gn pp) (hg : BlkG X N' scope k fun Y => PG Y tg g) (ht : BlkG X N' scope k fun Y => PIf Y ifs tt) (he : BlkG X N' scope k fun Y => PE Y elt te)
    (I6 : Inv Y (pp ++ pinsAt fp s5.heap) (blockSt tn idx σ) H4 s6) (hg6 : s6.gens = s5.gens) (turn : tGenV J g tt te C Z W) (w0 : W 0 m0 (blockSt tn idx σ) H4) : GIn X Y pp gn C Z (m0 + 1) H4 s6 := by
  have segs := seg_loopV (A2 := X.A.in4.in1) (pp := pp) (R := fun _ _ r s₁ => r = .ok .next ∧ ∃ τ H, Inv Y pp τ H s₁ ∧ Z H)
    (Yp := fun _ _ v s kap => ∃ y τ H pl N, RelV y v ∧ Inv Y (pp ++ pl) τ H s ∧ C y H N ∧ ∀ H5 s'', Inv Y (pp ++ pl) τ H5 s'' → N H5 → kap (.send .none) s'') G.A G.xe G.calm G.co G.T (G.blk _ hg) (G.blk _ ht) (G.blk _ he) G.stat turn
    (fun n s₀ s₁ τ H J z => ⟨rfl, τ, H, J, z⟩) (fun n s₀ s kap y v τ H pl N r J z1 z2 => ⟨y, τ, H, pl, N, r, J, z1, z2⟩)
  have hP := G.prog
  have hW := G.w
  have hst := G.st
  rw [← hg6] at hst
  refine ⟨_, _, _, I6, hst, fun s'' I7 => ⟨rfl, ?_⟩⟩
  have st7 : tnn 0 s''.heap := G.T.keep _ _ _ G.tn0 fun b hb o e => (I7.pin (b, o) (List.mem_append_right _ (List.mem_append_right _ (mem_pinsAt hb e)))).1
  have fr7 : ∀ b ∈ fp, H4 b = none := fun b hb => by
    obtain ⟨o, e, d⟩ := G.T.obj _ _ G.tn0 b hb
    exact (I7.pin (b, o) (List.mem_append_right _ (List.mem_append_right _ (mem_pinsAt hb e)))).2.1
  have q := seg_start (iter := iter) (ifs := ifs) (scope := scope) (pos := pos) (elt := elt) G.T st7 (segs m0 (m0 + 1) 0 _ _ s'' s'' (Nat.lt_succ_self _) w0 I7.unpinned st7 fr7)
  rw [hP, hW] at q
  exact q

def takeIn (S : Addr) : Taker := fun y H N => ∃ ys, H S = some (.lst ys) ∧ ys.length < sizeLine ∧ N (upd H S (.lst (ys ++ [y])))
theorem extend_loop {pins : List (Addr × Obj)} {σ : St} {J : It} {H3 : Hp} {a : Addr} {s5 : Shared} {Y : Cx} {it : Addr} {fp : List Addr} {tnn : Nat → Heap → Prop} {gn : Nat} {pp : List (Addr × Obj)} {Z : Hp → Prop} {A : Around} {R' : Result → Shared → Prop} {S : Addr} {res : Value}
    (hr : Room (k + 1) X.A) (G : GenL X pins σ N' scope tn idx k elt tg iter ifs pos J H3 a s5 Y it fp tnn gn pp)
    (hin : ∀ {Q : Option Value → Shared → Prop} {E : Value → Shared → Prop} {s : Shared}, wpAny (model X.prog X.w) X.A.in4 (pyNext (.ref a)) Q E s → wpAny (model X.prog X.w) A.in1 (pyNext (.ref a)) Q E s)
    (hR : ∀ s H, Inv X pins σ H s → Z H → R' (.ok (.ret res)) s) :
    ∀ (n : Nat) (H : Hp) (s : Shared), GIn X Y pp gn (takeIn S) Z n H s → codeAny (model X.prog X.w) A (.builtin "list.extend.loop" ⟨[.ref S, .ref a, res], []⟩) R' s := by
  intro n
  induction n using Nat.strongRecOn with
  | ind n ih =>
    intro H s h
    refine codeAny_builtin F.entry_extend_loop ?_
    rw [Around.under_plainId F.plain_extend_loop _]
    show wpAny _ A.in1 (pyNext (.ref a) >>= _) _ _ s
    refine wpAny_bind (hin (wpAny_mono (gnext (E := fun _ _ => False) hr G h) (fun r s1 q => ?_) fun _ _ z => z.elim))
    cases r with
    | none =>
      obtain ⟨H1, I1, z1⟩ := q
      exact wpAny_pure (hR s1 H1 I1 z1)
    | some v =>
      obtain ⟨y, τ, H1, pl, N, r1, I1, ⟨ys, hS, hz, n1⟩, nx⟩ := q
      obtain ⟨_, its, c, rv, hl, e⟩ := I1.lstM hS
      show wpAny _ A.in1 (updateSeq S (·.push v) >>= _) _ _ _
      have hP := G.prog
      have hW := G.w
      obtain ⟨m, hm, h2⟩ := nx _ _ (I1.lset (its' := its ++ [v]) (f := (·.push v)) (t' := s1.toks) hS e (by simp) (rv.append (.cons r1 .nil)) (by rw [List.length_append, List.length_singleton]; omega)) rfl n1
      refine wpAny_bind (wpAny_updateSeq e rfl (wpAny_pure ⟨plainId_quiet F.plain_extend_loop _, ih m hm _ _ h2⟩) (by rw [List.size_toArray]; omega) (by show (its.toArray.push v).size ≤ sizeLine + 1; rw [Array.size_push, List.size_toArray]; omega))
theorem wp_collect {pins : List (Addr × Obj)} {σ : St} {J : It} {H3 : Hp} {a : Addr} {s5 : Shared} {Y : Cx} {it : Addr} {fp : List Addr} {tnn : Nat → Heap → Prop} {gn : Nat} {pp : List (Addr × Obj)} {A : Around} {E : Value → Shared → Prop} {QL : List Value → Shared → Prop} {R : List V → Hp → Prop}
    (hr : Room (k + 1) X.A) (G : GenL X pins σ N' scope tn idx k elt tg iter ifs pos J H3 a s5 Y it fp tnn gn pp) (hg : BlkG X N' scope k fun Y => PG Y tg g) (ht : BlkG X N' scope k fun Y => PIf Y ifs tt) (he : BlkG X N' scope k fun Y => PE Y elt te)
    (hin : ∀ {Q : Option Value → Shared → Prop} {E : Value → Shared → Prop} {s : Shared}, wpAny (model X.prog X.w) X.A.in4 (pyNext (.ref a)) Q E s → wpAny (model X.prog X.w) A.in1 (pyNext (.ref a)) Q E s)
    (hW : ∀ S, H3 S = none → ∃ W : Nat → Nat → St → Hp → Prop, (∃ m, W 0 m (blockSt tn idx σ) (upd H3 S (.lst []))) ∧ tGenV J g tt te (takeIn S) (fun H => ∃ ys, H S = some (.lst ys) ∧ R ys H) W)
    (hQ : ∀ us ys s H, Inv X pins σ H s → Vals ys us → ys.length ≤ sizeLine → R ys H → QL us s) : wpAny (model X.prog X.w) A (collect (.ref a)) QL E s5 := by
  have hT : ∀ {s' : Shared}, s'.heap.IsGen a gn → s'.TypeIs (.ref a) "generator" := fun h => h.typeIs
  obtain ⟨W, ⟨m0, w0⟩, turn⟩ := hW s5.heap.objs.size (G.inv.hok.fresh (Nat.le_refl _))
  have I0 := G.inv.pinned (G.stat G.fr) (G.T.obj _ _ G.tn0)
  have hSI : s5.heap.objs.size ≠ a := fun e => by
    obtain ⟨o, _, _, ho, _⟩ := G.isg G.inv
    have := Heap.lt_size ho
    rw [e] at this
    exact Nat.lt_irrefl _ this
  unfold collect
  refine wpAny_bind (wpAny_runValue (codeAny_builtin F.entry_proto_collect ?_))
  rw [Around.under_plainId F.plain_proto_collect _]
  show wpAny _ A.in1 (newList [] >>= fun l => again (.builtin "list.__iadd__" ⟨[l, .ref a], []⟩)) _ _ s5
  refine wpAny_bind (wpAny_newObj_type ?_)
  refine wpAny_pure ⟨plainId_quiet F.plain_list_iadd _, codeAny_builtin F.entry_list_iadd ?_⟩
  rw [Around.under_plainId F.plain_list_iadd _]
  have I1 := I0.lnew (ys := []) (its := []) (t' := s5.toks) .nil (Nat.zero_le _)
  have T1 := hT (G.isg I1.unpinned)
  show wpAny _ A.in1 (Builtin.List.listExtendWith (.ref s5.heap.objs.size) (.ref a) (.ref s5.heap.objs.size)) _ _ _
  unfold Builtin.List.listExtendWith
  refine wpAny_bind (wpAny_typeOf T1 ?_)
  have h1 : Builtin.List.listSameRef (.ref s5.heap.objs.size) (.ref a) = false := by simp [Builtin.List.listSameRef, hSI]
  have h2 : (Value.type "generator" == Value.type "list") = false := by decide
  have h3 : (Value.type "generator" == Value.type "tuple") = false := by decide
  simp only [h1, h2, h3, Bool.or_false, Bool.false_eq_true, if_false]
  refine wpAny_bind (wpAny_pyIter_gen (G.isg I1.unpinned) ?_)
  refine wpAny_bind (wpAny_holding ?_)
  unfold Builtin.List.listLengthHint
  refine wpAny_bind (wpAny_specialOf T1 F.gen_no_len ?_)
  show wpAny _ A.in1 (specialOf (Value.ref a) (Str.ofString "__length_hint__") >>= _) _ _ _
  refine wpAny_bind (wpAny_specialOf T1 F.gen_no_hint ?_)
  refine wpAny_pure ?_
  show wpAny _ A.in1 (rule "list.extend.makes-room" >>= fun _ => Builtin.List.listTouch (.ref s5.heap.objs.size) >>= fun _ =>
    again (.builtin "list.extend.loop" ⟨[.ref s5.heap.objs.size, .ref a, .ref s5.heap.objs.size], []⟩)) _ _ _
  refine wpAny_bind (wpAny_rule ?_)
  obtain ⟨_, its1, c1, rv1, hl1, hS₁⟩ := I1.lstM upd_same
  have e1 : its1 = [] := by cases rv1; rfl
  subst e1
  refine wpAny_bind ?_
  show wpAny _ A.in1 (updateSeq s5.heap.objs.size (·.push .none) >>= fun _ => updateSeq s5.heap.objs.size (·.pop)) _ _ _
  refine wpAny_bind (wpAny_updateSeq hS₁ rfl ?_)
  have I2 := I1.lset (ys := [.non]) (its' := [.none]) (f := (·.push .none)) (t' := s5.toks) upd_same hS₁ (by simp) (.cons rfl .nil) (by decide)
  have hS₂ := Heap.get?_update_self (Obj.mapSeq (·.push Value.none)) hS₁ rfl
  refine wpAny_updateSeq hS₂ rfl ?_
  obtain ⟨_, its2, c2, rv2, hl2, hS₂'⟩ := I2.lstM upd_same
  have I3 := I2.lset (ys := []) (its' := []) (f := (·.pop)) (t' := s5.toks) upd_same hS₂' (by
    cases rv2 with
    | cons r t => cases t; simp) .nil (Nat.zero_le _)
  rw [upd_upd, upd_upd] at I3
  refine wpAny_pure ⟨plainId_quiet F.plain_extend_loop _, extend_loop (Z := fun H => ∃ ys, H s5.heap.objs.size = some (.lst ys) ∧ R ys H) hr G hin (fun s H I ⟨ys, hS, q⟩ => ?_) (m0 + 1) _ _ (gin_start G hg ht he I3 rfl turn w0)⟩
  obtain ⟨hz, its, c, rv, hl, e⟩ := I.lstM hS
  show wpAny _ A (load s5.heap.objs.size >>= _) _ _ s
  refine wpAny_bind (wpAny_load e ?_)
  refine wpAny_pure ?_
  have := hQ its ys s H I rv hz q
  simpa using this
end
end L2

set_option Elab.async false
set_option maxRecDepth 100000
set_option maxHeartbeats 4000000
namespace L2
open PySem PySem.Spec PyProof.Rows
section
variable {X : Cx} {tg elt iter : Expr} {ifs : List Expr} {scope : Scope} {pos : Pos} {N' : List Str} {tn : Nat} {idx : List Nat} {wi : TI} {g : TG} {tt : TT} {te : TE} {c P : Addr} {k : Nat}

def tTupG (P : Addr) (tn : Nat) (idx : List Nat) (wi : TI) (g : TG) (tt : TT) (te : TE) : TE := fun σ H Q => tMk P wi (fun J H1 => ∀ S, H1 S = none → ∃ W : Nat → Nat → St → Hp → Prop, (∃ m, W 0 m (blockSt tn idx σ) (upd H1 S (.lst []))) ∧
  tGenV J g tt te (takeIn S) (fun H2 => ∃ ys, H2 S = some (.lst ys) ∧ ∀ l, H2 l = none → Q (.ref l) (upd H2 l (.tup ys))) W) σ H
theorem code_tuple_new_col {Q₁ : Value → Shared → Prop} {QL : List Value → Shared → Prop} {prog : Program} {w : World} {A : Around} {E : Value → Shared → Prop} {s : Shared} {I : Addr} (hT : s.TypeIs (.ref I) "generator")
    (W : wpAny (model prog w) A.in1 (collect (.ref I)) QL E s) (hsz : ∀ us s', QL us s' → us.length ≤ sizeLine)
    (h : ∀ us s', QL us s' → Q₁ (.ref s'.heap.objs.size) { s' with heap := s'.heap.push { cls := .type "tuple", data := .seq us.toArray } }) :
    codeAny (model prog w) A (.call (.builtin "tuple.__new__") ⟨[.type "tuple", .ref I], []⟩) (wants Q₁ E) s := by
  refine codeAny_of_tree ?_
  show wpAny _ A.in1 (do checkBuiltinCall "tuple.__new__" ⟨[.type "tuple", .ref I], []⟩; again (.builtin "tuple.__new__" ⟨[.type "tuple", .ref I], []⟩)) _ _ s
  refine wpAny_bind (wpAny_of_eq (F.newCall_tuple_1 _) (wpAny_pure ⟨plainId_quiet F.plain_tuple_new _, codeAny_builtin F.entry_tuple_new ?_⟩))
  rw [Around.under_plainId F.plain_tuple_new _]
  have hsub := sub_tuple_self
  have hinit := init_tuple_lookup
  have hmh := madeHere_tuple
  wp_walk using wpAny_typeOf hT, wpAny_mono W
  · intro us s' hq
    show wpAny _ _ (Builtin.Tuple.tupleExact us.toArray >>= fun v => ret v) _ _ _
    unfold Builtin.Tuple.tupleExact
    refine wpAny_bind (wpAny_newObj_type ?_ (by show us.toArray.size ≤ sizeLine; rw [List.size_toArray]; exact hsz us s' hq))
    exact wpAny_pure (h us s' hq)
  · exact fun _ _ z => z
theorem pe_tupleGen {p gpos : Pos} (hr : Room (k + 1) X.A) (hc : X.calm = true) (B : BlockOk X.N X.env.scope scope N' tn idx)
    (h0 : scope.names.lookup (".0" : Str) = some .local) (hco : scope.isCoroutine = false) (hcode : X.env.code = .ref c) (hd : PySem.W.CodeHd X.base c P) (hbm : ∃ bm ob, BMod X.base mainGlobals X.mg bm ob)
    (hgl : Gl X "tuple") (hm : X.mg "tuple" = none) (hi : PI X tg iter wi) (hg : BlkG X N' scope k fun Y => PG Y tg g) (ht : BlkG X N' scope k fun Y => PIf Y ifs tt) (he : BlkG X N' scope k fun Y => PE Y elt te)
    (hs : ∀ x, genFold iter X.env x = pure x := by intro _; rfl) : PE X (.Call (.Name "tuple" p) [geOf elt tg iter ifs scope gpos] [] pos) (tTupG P tn idx wi g tt te) := by
  refine ⟨?_⟩
  intro pins s σ H Q I h
  refine wpAny_Call_Name_kw (ld_blt I hgl hm bt_tuple ?_)
  refine PyProof.Rows.callWith_type1 ?_ rfl rfl
  show wpAny _ _ (spliced ((false, eval (geOf elt tg iter ifs scope gpos) X.env) :: [])) _ _ s
  refine Calls.spliced_cons (gen_make hr hc B h0 hco hcode hd hbm hi hs I h ?_)
  intro J H3 a s5 Y it fp tnn gn pp G hW
  refine Calls.spliced_nil ?_
  have hT : s5.TypeIs (.ref a) "generator" := (G.isg G.inv).typeIs
  refine callType_codes (Q₁ := fun obj s₁ => s₁.TypeIs obj "tuple" ∧ EP X pins σ Q obj s₁) F.called_tuple (F.typeCall_tuple_1 _) F.entry_object_init
    (code_tuple_new_col (QL := fun us s' => us.length ≤ sizeLine ∧ ∃ ys H', Inv X pins σ H' s' ∧ Vals ys us ∧ ∀ l, H' l = none → Q (.ref l) (upd H' l (.tup ys))) hT
      (wp_collect hr G hg ht he (fun h => wpAny_of_in1 h) hW fun us ys s' H' I' rv hz q => ⟨by rw [← rv.length]; exact hz, ys, H', I', rv, q⟩) (fun us s' q => q.1) fun us s' ⟨hl, ys, H', I', rv, q⟩ => ⟨⟨_, Heap.get?_push_size _ rfl, rfl⟩, ?_⟩) fun obj s₁ h₁ => ?_
  · have I2 : Inv X pins σ (upd H' s'.heap.objs.size (.tup ys)) { s' with heap := s'.heap.push { cls := .type "tuple", data := .seq us.toArray } } :=
      I'.laid (t' := s'.toks) (fun b o e => Heap.get?_push_of_some _ e) (Nat.le_refl _) (show ObjOk X.prog X.w _ _ _ (.tup ys) from ⟨by rw [rv.length]; exact hl, us, rv, TupB.new _ _⟩)
    exact ⟨.ref s'.heap.objs.size, _, I2, rfl, q _ (I'.hok.fresh (Nat.le_refl _))⟩
  · exact ⟨h₁.1, F.args_object_init_2 obj _, object_init_meets F.called_tuple.init.lookup F.called_tuple.made (by decide) X.prog X.w X.A.in1 _ s₁ ⟨h₁.1, rfl, h₁.2⟩⟩
end
end L2

set_option Elab.async false
set_option maxRecDepth 100000
set_option maxHeartbeats 4000000
namespace L2
open PySem PySem.Spec PyProof.Rows

def Ris (xs : Array Nat) : Prop := xs.toList.Pairwise (· < ·)
theorem ris_lt {xs : Array Nat} (h : Ris xs) {i j : Nat} (hij : i < j) (hj : j < xs.size) : xs[i] < xs[j] := by
  have := List.pairwise_iff_getElem.mp h i j (by simpa using Nat.lt_trans hij hj) (by simpa using hj) hij
  simpa using this
theorem below_go {xs : Array Nat} {v : Nat} (h : Ris xs) : ∀ (fuel lo hi : Nat), hi - lo ≤ fuel → lo ≤ hi → hi ≤ xs.size → (∀ i (hi' : i < xs.size), i < lo → xs[i] < v) → (∀ i (hi' : i < xs.size), hi ≤ i → v ≤ xs[i]) →
    SetTable.below.go xs v fuel lo hi ≤ xs.size ∧ (∀ i (hi' : i < xs.size), i < SetTable.below.go xs v fuel lo hi → xs[i] < v) ∧ ∀ i (hi' : i < xs.size), SetTable.below.go xs v fuel lo hi ≤ i → v ≤ xs[i]
  | 0, lo, hi, hf, h1, h2, ha, hb => by
    have e : lo = hi := by omega
    subst e
    exact ⟨h2, ha, hb⟩
  | fuel + 1, lo, hi, hf, h1, h2, ha, hb => by
    unfold SetTable.below.go
    by_cases hlt : lo < hi
    · rw [if_pos hlt]
      dsimp only
      have hm : (lo + hi) / 2 < xs.size := by omega
      have e : xs.getD ((lo + hi) / 2) v = xs[(lo + hi) / 2] := by simp [Array.getD, hm]
      rw [e]
      by_cases hc : xs[(lo + hi) / 2] < v
      · rw [if_pos hc]
        refine below_go h fuel _ _ (by omega) (by omega) h2 (fun i hi' hl => ?_) hb
        by_cases ei : i = (lo + hi) / 2
        · subst ei; exact hc
        · exact Nat.lt_trans (ris_lt h (show i < (lo + hi) / 2 by omega) hm) hc
      · rw [if_neg hc]
        refine below_go h fuel _ _ (by omega) (by omega) (by omega) ha (fun i hi' hl => ?_)
        by_cases ei : i = (lo + hi) / 2
        · subst ei; exact Nat.le_of_not_lt hc
        · exact Nat.le_trans (Nat.le_of_not_lt hc) (Nat.le_of_lt (ris_lt h (show (lo + hi) / 2 < i by omega) hi'))
    · rw [if_neg hlt]
      have e : lo = hi := by omega
      subst e
      exact ⟨h2, ha, hb⟩
theorem below_ok {xs : Array Nat} (v : Nat) (h : Ris xs) : SetTable.below xs v ≤ xs.size ∧ (∀ i (hi' : i < xs.size), i < SetTable.below xs v → xs[i] < v) ∧ ∀ i (hi' : i < xs.size), SetTable.below xs v ≤ i → v ≤ xs[i] :=
  below_go h _ _ _ (by omega) (Nat.zero_le _) (Nat.le_refl _) (fun i _ z => absurd z (Nat.not_lt_zero _)) (fun i z z' => absurd z (Nat.not_lt.mpr z'))
theorem ris_insert {xs : Array Nat} {v : Nat} (h : Ris xs) (hn : xs[SetTable.below xs v]? ≠ some v) : Ris (SetTable.insertAt xs (SetTable.below xs v) v) := by
  obtain ⟨b0, b1, b2⟩ := below_ok v h
  generalize SetTable.below xs v = p at *
  unfold Ris SetTable.insertAt
  have e : ((xs.extract 0 p).push v ++ xs.extract p xs.size).toList = xs.toList.take p ++ [v] ++ xs.toList.drop p := by
    simp
    exact List.take_of_length_le (by simp)
  rw [e]
  have hl : ∀ y ∈ xs.toList.take p, y < v := fun y hy => by
    obtain ⟨i, hi, rfl⟩ := List.mem_take_iff_getElem.mp hy
    have hi2 : i < p ∧ i < xs.size := by simpa [Nat.lt_min] using hi
    simpa using b1 i hi2.2 hi2.1
  have hr : ∀ y ∈ xs.toList.drop p, v < y := fun y hy => by
    obtain ⟨i, hi, rfl⟩ := List.mem_drop_iff_getElem.mp hy
    have hi2 : p + i < xs.size := by rw [Nat.add_comm]; simpa using hi
    have h1 : v ≤ xs[p + i] := b2 (p + i) hi2 (Nat.le_add_right _ _)
    have h2 : v ≠ xs[p + i] := fun z => by
      by_cases hi0 : i = 0
      · subst hi0
        exact hn (by rw [Nat.add_zero] at hi2; rw [Array.getElem?_eq_getElem hi2]; simpa using z.symm)
      · have q := ris_lt h (show p < p + i by omega) hi2
        have q2 := b2 p (by omega) (Nat.le_refl _)
        omega
    have : xs.toList[p + i]'(by simpa using hi2) = xs[p + i] := by simp
    rw [this]
    omega
  have hp := List.take_append_drop p xs.toList
  have hpw : (xs.toList.take p ++ xs.toList.drop p).Pairwise (· < ·) := by rw [hp]; exact h
  obtain ⟨q1, q2, q3⟩ := List.pairwise_append.mp hpw
  refine List.pairwise_append.mpr ⟨List.pairwise_append.mpr ⟨q1, List.pairwise_singleton _ _, fun a ha b hb => ?_⟩, q2, fun a ha b hb => ?_⟩
  · rw [List.mem_singleton] at hb; subst hb; exact hl a ha
  · rcases List.mem_append.mp ha with ha | ha
    · exact q3 a ha b hb
    · rw [List.mem_singleton] at ha; subst ha; exact hr b hb

structure TabOk (w : World) (t : SetTable) : Prop where
  dum : t.dummies = #[]
  ris : Ris t.place
  led : t.led = !w.params.followText "set-order"
theorem has_nil (j : Nat) : SetTable.has #[] j = false := by
  unfold SetTable.has
  have : (#[] : Array Nat)[SetTable.below #[] j]? = none := by simp
  rw [this]
  rfl
theorem slot_empty {w : World} {t : SetTable} (h : TabOk w t) {j : Nat} (e : t.slot j = .empty) : t.place[SetTable.below t.place j]? ≠ some j := fun z => by
  unfold SetTable.slot at e
  dsimp only at e
  rw [z] at e
  simp at e
theorem TabOk.put {w : World} {t : SetTable} (h : TabOk w t) {j : Nat} (e : t.slot j = .empty) : TabOk w (t.put j).1 := by
  unfold SetTable.put
  refine ⟨?_, ris_insert h.ris (slot_empty h e), h.led⟩
  show (if SetTable.has t.dummies j then _ else t.dummies) = #[]
  rw [h.dum, has_nil]
  rfl
end L2

set_option Elab.async false
set_option maxRecDepth 100000
set_option maxHeartbeats 4000000
namespace L2
open PySem PySem.Spec PyProof.Rows

def numE (e : Int × Value) : Int := match e.2 with | .int i _ => i | _ => 0
def SetM (P : Program) (w : World) (h : Heap) (a : Addr) (ns : List Int) : Prop :=
  ∃ o es ep t, h.get? a = some o ∧ o.ExactSet ∧ o.data = .set es ep t ∧ ElemsOf (intKind P w) es.toList ∧ (es.toList.map numE).Perm ns ∧ ns.Nodup ∧ es.size < scanBound ∧ t.fits es.size = true ∧ TabOk w t
theorem SetM.stay {P : Program} {w : World} {h h' : Heap} {a : Addr} {ns : List Int} (x : SetM P w h a ns) (k : ∀ o, h.get? a = some o → h'.get? a = some o) : SetM P w h' a ns :=
  let ⟨o, es, ep, t, e, r⟩ := x; ⟨o, es, ep, t, k o e, r⟩
theorem SetM.perm {P : Program} {w : World} {h : Heap} {a : Addr} {ns ms : List Int} (x : SetM P w h a ns) (p : ns.Perm ms) : SetM P w h a ms :=
  let ⟨o, es, ep, t, e, a1, a2, a3, a4, a5, r⟩ := x; ⟨o, es, ep, t, e, a1, a2, a3, a4.trans p, p.nodup_iff.mp a5, r⟩
def setO (P : Program) (w : World) (a : Addr) (ns : List Int) : HO := .ext fun h => SetM P w h a ns
def addI (ns : List Int) (m : Int) : List Int := if m ∈ ns then ns else ns ++ [m]
section
variable {P : Program} {w : World} {A : Around} {E : Value → Shared → Prop} {s : Shared}
end

def dedI (ns : List Int) : List Int := ns.foldl addI []
end L2

set_option Elab.async false
set_option maxRecDepth 100000
set_option maxHeartbeats 4000000
namespace L2
open PySem PySem.Spec PyProof.Rows

section
variable {P : Program} {w : World} {A : Around} {R : Result → Shared → Prop} {I : Addr} {fp wr : List Addr} {G : Array GenState → Array GenState → Prop} {n : Nat} {St : Nat → Shared → Prop}
end
section
variable {P : Program} {w : World} {A : Around} {E : Value → Shared → Prop} {s : Shared}
theorem SetM.typeIs {h : Heap} {a : Addr} {ns : List Int} {s : Shared} (x : SetM P w s.heap a ns) : s.TypeIs (.ref a) "set" := let ⟨o, _, _, _, ho, hex, _⟩ := x; ⟨o, ho, hex.1⟩
end
end L2

set_option Elab.async false
set_option maxRecDepth 100000
set_option maxHeartbeats 4000000
namespace L2
open PySem PySem.Spec PyProof.Rows

def SIt (h : Heap) (I a : Addr) (first : Value) (i n ep : Nat) : Prop := ∃ o, h.get? I = some o ∧ o.cls = .type "set_iterator" ∧ o.data = .fields #[first, .int i 0, .ref a, .int n 0, .int ep 0]
theorem SIt.typeIs {s : Shared} {I a : Addr} {first : Value} {i n ep : Nat} (x : SIt s.heap I a first i n ep) : s.TypeIs (.ref I) "set_iterator" := let ⟨o, ho, hc, _⟩ := x; ⟨o, ho, hc⟩
theorem erase_perm {α : Type} : ∀ {l : List α} {i : Nat} (h : i < l.length), (l[i] :: l.eraseIdx i).Perm l
  | [], i, h => by simp at h
  | x :: l, 0, h => .refl _
  | x :: l, i + 1, h => by
    rw [List.eraseIdx_cons_succ, List.getElem_cons_succ]
    exact (List.Perm.swap _ _ _).trans (.cons _ (erase_perm (by simpa using h)))
section
variable {P : Program} {w : World} {A : Around} {E : Value → Shared → Prop} {s : Shared}
end
end L2

set_option Elab.async false
set_option maxRecDepth 100000
set_option maxHeartbeats 4000000
namespace L2
open PySem PySem.Spec PyProof.Rows
section
variable {P : Program} {w : World} {A : Around} {E : Value → Shared → Prop} {s : Shared}

structure SetE (P : Program) (w : World) (h : Heap) (a : Addr) (es : Array (Int × Value)) (ep : Nat) (t : SetTable) : Prop where
  at_ : ∃ o, h.get? a = some o ∧ o.ExactSet ∧ o.data = .set es ep t
  fits : t.fits es.size = true
  tab : TabOk w t
end
end L2

set_option Elab.async false
set_option maxRecDepth 100000
set_option maxHeartbeats 4000000
namespace L2
open PySem PySem.Spec PyProof.Rows
section
variable {P : Program} {w : World} {A : Around} {E : Value → Shared → Prop} {s : Shared}
theorem SIt.set0 {h : Heap} {I a : Addr} {first x : Value} {i n ep : Nat} (hit : SIt h I a first i n ep) : SIt (h.update I (Obj.mapFields (·.setIfInBounds 0 x))) I a x i n ep := by
  obtain ⟨o, ho, hc, hd⟩ := hit
  exact ⟨_, Heap.get?_update_self _ ho (Obj.isFreed_of_fields (Obj.data_mapFields hd _)), (Obj.cls_mapFields ..).trans hc, by rw [Obj.data_mapFields hd]; simp⟩
end
end L2

set_option Elab.async false
set_option maxRecDepth 100000
set_option maxHeartbeats 4000000
namespace L2
open PySem PySem.Spec PyProof.Rows
theorem SIt.stay {h h' : Heap} {I a : Addr} {first : Value} {i n ep : Nat} (x : SIt h I a first i n ep) (k : ∀ o, h.get? I = some o → h'.get? I = some o) : SIt h' I a first i n ep := let ⟨o, ho, r⟩ := x; ⟨o, k o ho, r⟩
theorem SetE.stay {P : Program} {w : World} {h h' : Heap} {a : Addr} {es : Array (Int × Value)} {ep : Nat} {t : SetTable} (x : SetE P w h a es ep t) (k : ∀ o, h.get? a = some o → h'.get? a = some o) : SetE P w h' a es ep t :=
  ⟨let ⟨o, ho, r⟩ := x.at_; ⟨o, k o ho, r⟩, x.fits, x.tab⟩
section
variable {P : Program} {w : World} {A : Around} {E : Value → Shared → Prop} {s : Shared}
end
end L2

set_option Elab.async false
set_option maxRecDepth 100000
set_option maxHeartbeats 4000000
namespace L2
open PySem PySem.Spec PyProof.Rows
section
variable {P : Program} {w : World} {A : Around} {E : Value → Shared → Prop} {s : Shared}
end
end L2

set_option Elab.async false
set_option maxRecDepth 100000
set_option maxHeartbeats 4000000
namespace L2
open PySem PySem.Spec PyProof.Rows
def sortI (ns : List Int) : List Int := ns.mergeSort fun a b => decide (a ≤ b)
section
variable {P : Program} {w : World} {A : Around} {E : Value → Shared → Prop} {s : Shared}
end
end L2

set_option Elab.async false
set_option maxRecDepth 100000
set_option maxHeartbeats 4000000
namespace L2
open PySem PySem.Spec PyProof.Rows
section
variable {P : Program} {w : World} {A : Around} {E : Value → Shared → Prop} {s : Shared}
end
section
variable {X : Cx}
variable {tg elt iter : Expr} {ifs : List Expr} {scope : Scope} {pos : Pos} {N' : List Str} {tn : Nat} {idx : List Nat} {wi : TI} {g : TG} {tt : TT} {te : TE}

end
end L2

set_option Elab.async false
set_option maxRecDepth 100000
set_option maxHeartbeats 4000000
namespace L2
open PySem PySem.Spec PyProof.Rows

inductive Dt where
  | non | bl (b : Bool) | int (i : Int) | str (x : Str) | lst (xs : List Dt) | tup (xs : List Dt)
inductive Rdt (H : Hp) : V → Dt → Prop where
  | non : Rdt H .non .non
  | bl (b : Bool) : Rdt H (.bl b) (.bl b)
  | int (i : Int) : Rdt H (.int i) (.int i)
  | str (x : Str) : Rdt H (.str x) (.str x)
  | lst {a : Addr} {xs : List V} {ds : List Dt} (e : H a = some (.lst xs)) (hl : xs.length = ds.length) (h : ∀ (i : Nat) (x : V) (d : Dt), xs[i]? = some x → ds[i]? = some d → Rdt H x d) : Rdt H (.ref a) (.lst ds)
  | tup {a : Addr} {xs : List V} {ds : List Dt} (e : H a = some (.tup xs)) (hl : xs.length = ds.length) (h : ∀ (i : Nat) (x : V) (d : Dt), xs[i]? = some x → ds[i]? = some d → Rdt H x d) : Rdt H (.ref a) (.tup ds)
mutual
def eqD : Dt → Dt → Bool
  | .non, .non => true
  | .bl a, .bl b => a == b
  | .bl a, .int b => (if a then 1 else 0) == b
  | .int a, .bl b => a == (if b then 1 else 0)
  | .int a, .int b => a == b
  | .str a, .str b => a == b
  | .lst xs, .lst ys => eqDs xs ys
  | .tup xs, .tup ys => eqDs xs ys
  | _, _ => false
def eqDs : List Dt → List Dt → Bool
  | [], [] => true
  | x :: xs, y :: ys => eqD x y && eqDs xs ys
  | _, _ => false
end
mutual
theorem eqD_refl : ∀ d : Dt, eqD d d = true
  | .non => by simp [eqD]
  | .bl b => by simp [eqD]
  | .int i => by simp [eqD]
  | .str x => by simp [eqD]
  | .lst xs => by simp only [eqD]; exact eqDs_refl xs
  | .tup xs => by simp only [eqD]; exact eqDs_refl xs
theorem eqDs_refl : ∀ ds : List Dt, eqDs ds ds = true
  | [] => by simp [eqDs]
  | d :: ds => by simp only [eqDs]; rw [eqD_refl d, eqDs_refl ds]; rfl
end
theorem eqDs_range : ∀ (xs ys : List Dt), eqDs xs ys = ((List.range (min xs.length ys.length)).all (fun j => eqD (xs.getD j .non) (ys.getD j .non)) && xs.length == ys.length)
  | [], [] => by simp [eqDs]
  | [], _ :: _ => by simp [eqDs]
  | _ :: _, [] => by simp [eqDs]
  | x :: xs, y :: ys => by
    rw [eqDs, eqDs_range xs ys]
    have e : min (x :: xs).length (y :: ys).length = min xs.length ys.length + 1 := by simp [Nat.succ_min_succ]
    rw [e, List.range_succ_eq_map, List.all_cons, List.all_map]
    have e2 : ((x :: xs).length == (y :: ys).length) = (xs.length == ys.length) := by simp
    rw [e2, Bool.and_assoc]
    rfl
theorem Rdt.inj {H : Hp} {v : V} {d : Dt} (h : Rdt H v d) : ∀ {d' : Dt}, Rdt H v d' → d = d' := by
  induction h with
  | non => intro d' h'; cases h'; rfl
  | bl b => intro d' h'; cases h'; rfl
  | int i => intro d' h'; cases h'; rfl
  | str x => intro d' h'; cases h'; rfl
  | lst e hl h ih =>
    intro d' h'
    cases h' with
    | lst e' hl' h' =>
      rw [e] at e'; cases e'
      congr 1
      refine List.ext_getElem? fun i => ?_
      rename_i xs ds ds'
      by_cases hi : i < xs.length
      · rw [List.getElem?_eq_getElem (by omega), List.getElem?_eq_getElem (by omega)]
        exact congrArg some (ih i _ _ (List.getElem?_eq_getElem hi) (List.getElem?_eq_getElem (by omega)) (h' i _ _ (List.getElem?_eq_getElem hi) (List.getElem?_eq_getElem (by omega))))
      · rw [List.getElem?_eq_none (by omega), List.getElem?_eq_none (by omega)]
    | tup e' hl' h' => rw [e] at e'; cases e'
  | tup e hl h ih =>
    intro d' h'
    cases h' with
    | lst e' hl' h' => rw [e] at e'; cases e'
    | tup e' hl' h' =>
      rw [e] at e'; cases e'
      congr 1
      refine List.ext_getElem? fun i => ?_
      rename_i xs ds ds'
      by_cases hi : i < xs.length
      · rw [List.getElem?_eq_getElem (by omega), List.getElem?_eq_getElem (by omega)]
        exact congrArg some (ih i _ _ (List.getElem?_eq_getElem hi) (List.getElem?_eq_getElem (by omega)) (h' i _ _ (List.getElem?_eq_getElem hi) (List.getElem?_eq_getElem (by omega))))
      · rw [List.getElem?_eq_none (by omega), List.getElem?_eq_none (by omega)]
theorem Rdt.keep {H H' : Hp} (k : Keep H H') {v : V} {d : Dt} (h : Rdt H v d) : Rdt H' v d := by
  induction h with
  | non => exact .non
  | bl b => exact .bl b
  | int i => exact .int i
  | str x => exact .str x
  | lst e hl h ih => exact .lst (k.lst e) hl ih
  | tup e hl h ih => exact .tup (k.tup e) hl ih
mutual

def dpD : Dt → Nat
  | .lst xs => dpDs xs + 1
  | .tup xs => dpDs xs + 1
  | _ => 0
def dpDs : List Dt → Nat
  | [] => 0
  | x :: xs => max (dpD x) (dpDs xs)
end
theorem dpD_le : ∀ {ds : List Dt} {i : Nat} {d : Dt}, ds[i]? = some d → dpD d ≤ dpDs ds
  | [], _, _, h => by simp at h
  | x :: xs, 0, d, h => by
    simp at h; subst h
    rw [dpDs]; exact Nat.le_max_left _ _
  | x :: xs, i + 1, d, h => by
    rw [dpDs]
    exact Nat.le_trans (dpD_le (i := i) (by simpa using h)) (Nat.le_max_right _ _)
section
variable {X : Cx} {pins : List (Addr × Obj)} {σ : St} {H : Hp} {s : Shared}
theorem Inv.lists (I : Inv X pins σ H s) {a : Addr} {xs : List V} (h : H a = some (.lst xs)) : ∃ its : List Value, Vals xs its ∧ s.heap.IsList a its.toArray := by
  obtain ⟨its, rv, p, _⟩ := I.list (SqL.of h)
  exact ⟨its, rv, p.isList⟩
theorem Inv.tups (I : Inv X pins σ H s) {a : Addr} {xs : List V} (h : H a = some (.tup xs)) : ∃ its : List Value, Vals xs its ∧ s.heap.IsTuple a its.toArray := by
  obtain ⟨its, rv, p, _⟩ := I.tuple (SqT.of h)
  exact ⟨its, rv, p⟩
theorem eqAt_D (I : Inv X pins σ H s) {x y : V} {d : Dt} (hx : Rdt H x d) : ∀ {e : Dt} {u v : Value} {A : Around}, Rdt H y e → RelV x u → RelV y v → A.units + dpD d < cLine → SeqAt.EqAt A s u v (eqD d e) := by
  have lists := fun {a : Addr} {xs : List V} (h : H a = some (.lst xs)) => I.lists h
  have tups := fun {a : Addr} {xs : List V} (h : H a = some (.tup xs)) => I.tups h
  induction hx generalizing y with
  | non =>
    intro e u v A hy rx ry hu
    have hu' : A.units < cLine := by omega
    cases rx
    cases hy with
    | non => cases ry; exact SeqAt.EqAt.same _
    | bl b => cases ry; exact SeqAt.EqAt.none_bool _
    | int i => obtain ⟨t, rfl⟩ := ry; exact SeqAt.EqAt.none_int _ _
    | str z => obtain ⟨t, rfl⟩ := ry; exact SeqAt.EqAt.none_str _ _
    | lst e2 _ _ => cases ry; obtain ⟨_, _, p⟩ := lists e2; exact SeqAt.EqAt.none_list p hu'
    | tup e2 _ _ => cases ry; obtain ⟨_, _, p⟩ := tups e2; exact SeqAt.EqAt.none_tuple p hu'
  | bl a =>
    intro e u v A hy rx ry hu
    have hu' : A.units < cLine := by omega
    cases rx
    cases hy with
    | non => cases ry; exact SeqAt.EqAt.bool_none _
    | bl b => cases ry; exact SeqAt.EqAt.bool_bool _ _
    | int i => obtain ⟨t, rfl⟩ := ry; exact SeqAt.EqAt.bool_int _ _ _
    | str z => obtain ⟨t, rfl⟩ := ry; exact SeqAt.EqAt.bool_str _ _ _
    | lst e2 _ _ => cases ry; obtain ⟨_, _, p⟩ := lists e2; exact SeqAt.EqAt.bool_list _ p hu'
    | tup e2 _ _ => cases ry; obtain ⟨_, _, p⟩ := tups e2; exact SeqAt.EqAt.bool_tuple _ p hu'
  | int a =>
    intro e u v A hy rx ry hu
    have hu' : A.units < cLine := by omega
    obtain ⟨ta, rfl⟩ := rx
    cases hy with
    | non => cases ry; exact SeqAt.EqAt.int_none _ _
    | bl b => cases ry; exact SeqAt.EqAt.int_bool _ _ _
    | int i => obtain ⟨t, rfl⟩ := ry; exact SeqAt.EqAt.int_int _ _ _ _
    | str z => obtain ⟨t, rfl⟩ := ry; exact SeqAt.EqAt.int_str _ _ _ _
    | lst e2 _ _ => cases ry; obtain ⟨_, _, p⟩ := lists e2; exact SeqAt.EqAt.int_list _ _ p hu'
    | tup e2 _ _ => cases ry; obtain ⟨_, _, p⟩ := tups e2; exact SeqAt.EqAt.int_tuple _ _ p hu'
  | str a =>
    intro e u v A hy rx ry hu
    have hu' : A.units < cLine := by omega
    obtain ⟨ta, rfl⟩ := rx
    cases hy with
    | non => cases ry; exact SeqAt.EqAt.str_none _ _
    | bl b => cases ry; exact SeqAt.EqAt.str_bool _ _ _
    | int i => obtain ⟨t, rfl⟩ := ry; exact SeqAt.EqAt.str_int _ _ _ _
    | str z => obtain ⟨t, rfl⟩ := ry; exact SeqAt.EqAt.str_str _ _ _ _
    | lst e2 _ _ => cases ry; obtain ⟨_, _, p⟩ := lists e2; exact SeqAt.EqAt.str_list _ _ p hu'
    | tup e2 _ _ => cases ry; obtain ⟨_, _, p⟩ := tups e2; exact SeqAt.EqAt.str_tuple _ _ p hu'
  | lst e1 hl1 h1 ih =>
    rename_i a xs ds
    intro e u v A hy rx ry hu
    have hu' : A.units < cLine := by omega
    have hu1 : A.units + dpDs ds + 1 < cLine := by rw [dpD] at hu; omega
    cases rx
    obtain ⟨its, rv, p⟩ := lists e1
    cases hy with
    | non => cases ry; exact SeqAt.EqAt.list_none p hu'
    | bl b => cases ry; exact SeqAt.EqAt.list_bool _ p hu'
    | int i => obtain ⟨t, rfl⟩ := ry; exact SeqAt.EqAt.list_int _ _ p hu'
    | str z => obtain ⟨t, rfl⟩ := ry; exact SeqAt.EqAt.list_str _ _ p hu'
    | lst e2 hl2 h2 =>
      rename_i b ys es
      cases ry
      by_cases hab : a = b
      · subst hab
        have := (Rdt.lst e1 hl1 h1).inj (Rdt.lst e2 hl2 h2)
        cases this
        rw [eqD_refl]
        exact SeqAt.EqAt.same _
      · obtain ⟨its2, rv2, p2⟩ := lists e2
        have l1 := rv.length
        have l2 := rv2.length
        have at_ : ∀ j (g1 : j < its.toArray.size) (g2 : j < its2.toArray.size), SeqAt.EqAt A.in1 s its.toArray[j] its2.toArray[j] (eqD (ds.getD j .non) (es.getD j .non)) := fun j g1 g2 => by
          have g1' : j < xs.length := by rw [l1]; simpa using g1
          have g2' : j < ys.length := by rw [l2]; simpa using g2
          have r1 := vals_getD rv g1
          have r2 := vals_getD rv2 g2
          rw [List.getD_eq_getElem?_getD, List.getElem?_eq_getElem g1'] at r1
          rw [List.getD_eq_getElem?_getD, List.getElem?_eq_getElem g2'] at r2
          have d1 : ds[j]? = some ds[j] := List.getElem?_eq_getElem (by omega)
          have d2 : es[j]? = some es[j] := List.getElem?_eq_getElem (by omega)
          rw [List.getD_eq_getElem?_getD, List.getD_eq_getElem?_getD, d1, d2]
          have := dpD_le d1
          exact ih j _ _ (List.getElem?_eq_getElem g1') d1 (h2 j _ _ (List.getElem?_eq_getElem g2') d2) r1 r2 (by show A.units + 1 + _ < cLine; omega)
        refine SeqAt.EqAt.of_refs hab ?_
        rw [eqD, eqDs_range]
        by_cases hsz : ds.length = es.length
        · have q := SeqAt.RcAt.lists p p2 (by simp only [List.size_toArray]; omega) hu' at_
          have z : (ds.length == es.length) = true := by simpa using hsz
          rw [z, Bool.and_true, ← hsz, Nat.min_self]
          rw [List.size_toArray, ← l1, hl1] at q
          exact q
        · have z : (ds.length == es.length) = false := by simpa using hsz
          rw [z, Bool.and_false]
          exact SeqAt.RcAt.lists_lengths p p2 (by simp only [List.size_toArray]; simpa [bne_iff_ne] using (show its.length ≠ its2.length by omega)) hu'
    | tup e2 hl2 h2 => cases ry; obtain ⟨_, _, p2⟩ := tups e2; exact SeqAt.EqAt.list_tuple p p2 hu'
  | tup e1 hl1 h1 ih =>
    rename_i a xs ds
    intro e u v A hy rx ry hu
    have hu' : A.units < cLine := by omega
    have hu1 : A.units + dpDs ds + 1 < cLine := by rw [dpD] at hu; omega
    cases rx
    obtain ⟨its, rv, p⟩ := tups e1
    cases hy with
    | non => cases ry; exact SeqAt.EqAt.tuple_none p hu'
    | bl b => cases ry; exact SeqAt.EqAt.tuple_bool _ p hu'
    | int i => obtain ⟨t, rfl⟩ := ry; exact SeqAt.EqAt.tuple_int _ _ p hu'
    | str z => obtain ⟨t, rfl⟩ := ry; exact SeqAt.EqAt.tuple_str _ _ p hu'
    | lst e2 hl2 h2 => cases ry; obtain ⟨_, _, p2⟩ := lists e2; exact SeqAt.EqAt.tuple_list p p2 hu'
    | tup e2 hl2 h2 =>
      rename_i b ys es
      cases ry
      by_cases hab : a = b
      · subst hab
        have := (Rdt.tup e1 hl1 h1).inj (Rdt.tup e2 hl2 h2)
        cases this
        rw [eqD_refl]
        exact SeqAt.EqAt.same _
      · obtain ⟨its2, rv2, p2⟩ := tups e2
        have l1 := rv.length
        have l2 := rv2.length
        have at_ : ∀ j (g1 : j < its.toArray.size) (g2 : j < its2.toArray.size), SeqAt.EqAt A.in1 s its.toArray[j] its2.toArray[j] (eqD (ds.getD j .non) (es.getD j .non)) := fun j g1 g2 => by
          have g1' : j < xs.length := by rw [l1]; simpa using g1
          have g2' : j < ys.length := by rw [l2]; simpa using g2
          have r1 := vals_getD rv g1
          have r2 := vals_getD rv2 g2
          rw [List.getD_eq_getElem?_getD, List.getElem?_eq_getElem g1'] at r1
          rw [List.getD_eq_getElem?_getD, List.getElem?_eq_getElem g2'] at r2
          have d1 : ds[j]? = some ds[j] := List.getElem?_eq_getElem (by omega)
          have d2 : es[j]? = some es[j] := List.getElem?_eq_getElem (by omega)
          rw [List.getD_eq_getElem?_getD, List.getD_eq_getElem?_getD, d1, d2]
          have := dpD_le d1
          exact ih j _ _ (List.getElem?_eq_getElem g1') d1 (h2 j _ _ (List.getElem?_eq_getElem g2') d2) r1 r2 (by show A.units + 1 + _ < cLine; omega)
        refine SeqAt.EqAt.of_refs hab ?_
        rw [eqD, eqDs_range]
        have q := SeqAt.RcAt.tuples p p2 hu' at_
        rw [List.size_toArray, List.size_toArray, ← l1, ← l2, hl1, hl2] at q
        exact q
end
end L2

set_option Elab.async false
set_option maxRecDepth 100000
set_option maxHeartbeats 4000000
namespace L2
open PySem PySem.Spec PyProof.Rows
section
variable {X : Cx} {pins : List (Addr × Obj)} {σ : St} {H : Hp} {s : Shared}
theorem rcNe_D (I : Inv X pins σ H s) {x y : V} {d e : Dt} {u v : Value} {A : Around} (hx : Rdt H x d) (hy : Rdt H y e) (rx : RelV x u) (ry : RelV y v) (hu : A.units + dpD d < cLine) : SeqAt.RcNeAt A s u v (!(eqD d e)) := by
  have hu' : A.units < cLine := by omega
  have lists := fun {a : Addr} {xs : List V} (h : H a = some (.lst xs)) => I.lists h
  have tups := fun {a : Addr} {xs : List V} (h : H a = some (.tup xs)) => I.tups h
  cases hx with
  | non =>
    cases rx
    cases hy with
    | non => cases ry; exact SeqAt.RcNeAt.none_none
    | bl b => cases ry; exact SeqAt.RcNeAt.none_bool _
    | int b => obtain ⟨t, rfl⟩ := ry; exact SeqAt.RcNeAt.none_int _ _
    | str b => obtain ⟨t, rfl⟩ := ry; exact SeqAt.RcNeAt.none_str _ _
    | lst e2 _ _ => cases ry; obtain ⟨_, _, p⟩ := lists e2; exact SeqAt.RcNeAt.none_list p hu'
    | tup e2 _ _ => cases ry; obtain ⟨_, _, p⟩ := tups e2; exact SeqAt.RcNeAt.none_tuple p hu'
  | bl a =>
    cases rx
    cases hy with
    | non => cases ry; exact SeqAt.RcNeAt.bool_none _
    | bl b => cases ry; exact SeqAt.RcNeAt.bool_bool _ _
    | int b => obtain ⟨t, rfl⟩ := ry; exact SeqAt.RcNeAt.bool_int _ _ _
    | str b => obtain ⟨t, rfl⟩ := ry; exact SeqAt.RcNeAt.bool_str _ _ _
    | lst e2 _ _ => cases ry; obtain ⟨_, _, p⟩ := lists e2; exact SeqAt.RcNeAt.bool_list _ p hu'
    | tup e2 _ _ => cases ry; obtain ⟨_, _, p⟩ := tups e2; exact SeqAt.RcNeAt.bool_tuple _ p hu'
  | int a =>
    obtain ⟨ta, rfl⟩ := rx
    cases hy with
    | non => cases ry; exact SeqAt.RcNeAt.int_none _ _
    | bl b => cases ry; exact SeqAt.RcNeAt.int_bool _ _ _
    | int b => obtain ⟨t, rfl⟩ := ry; exact SeqAt.RcNeAt.int_int _ _ _ _
    | str b => obtain ⟨t, rfl⟩ := ry; exact SeqAt.RcNeAt.int_str _ _ _ _
    | lst e2 _ _ => cases ry; obtain ⟨_, _, p⟩ := lists e2; exact SeqAt.RcNeAt.int_list _ _ p hu'
    | tup e2 _ _ => cases ry; obtain ⟨_, _, p⟩ := tups e2; exact SeqAt.RcNeAt.int_tuple _ _ p hu'
  | str a =>
    obtain ⟨ta, rfl⟩ := rx
    cases hy with
    | non => cases ry; exact SeqAt.RcNeAt.str_none _ _
    | bl b => cases ry; exact SeqAt.RcNeAt.str_bool _ _ _
    | int b => obtain ⟨t, rfl⟩ := ry; exact SeqAt.RcNeAt.str_int _ _ _ _
    | str b => obtain ⟨t, rfl⟩ := ry; exact SeqAt.RcNeAt.str_str _ _ _ _
    | lst e2 _ _ => cases ry; obtain ⟨_, _, p⟩ := lists e2; exact SeqAt.RcNeAt.str_list _ _ p hu'
    | tup e2 _ _ => cases ry; obtain ⟨_, _, p⟩ := tups e2; exact SeqAt.RcNeAt.str_tuple _ _ p hu'
  | lst e1 hl1 h1 =>
    rename_i a xs ds
    have hu1 : A.units + dpDs ds + 1 < cLine := by rw [dpD] at hu; omega
    cases rx
    obtain ⟨its, rv, p⟩ := lists e1
    cases hy with
    | non => cases ry; exact SeqAt.RcNeAt.list_none p hu'
    | bl b => cases ry; exact SeqAt.RcNeAt.list_bool _ p hu'
    | int b => obtain ⟨t, rfl⟩ := ry; exact SeqAt.RcNeAt.list_int _ _ p hu'
    | str b => obtain ⟨t, rfl⟩ := ry; exact SeqAt.RcNeAt.list_str _ _ p hu'
    | lst e2 hl2 h2 =>
      rename_i b ys es
      cases ry
      obtain ⟨its2, rv2, p2⟩ := lists e2
      have l1 := rv.length
      have l2 := rv2.length
      have at_ : ∀ j (g1 : j < its.toArray.size) (g2 : j < its2.toArray.size), SeqAt.EqAt A.in1 s its.toArray[j] its2.toArray[j] (eqD (ds.getD j .non) (es.getD j .non)) := fun j g1 g2 => by
        have g1' : j < xs.length := by rw [l1]; simpa using g1
        have g2' : j < ys.length := by rw [l2]; simpa using g2
        have r1 := vals_getD rv g1
        have r2 := vals_getD rv2 g2
        rw [List.getD_eq_getElem?_getD, List.getElem?_eq_getElem g1'] at r1
        rw [List.getD_eq_getElem?_getD, List.getElem?_eq_getElem g2'] at r2
        have d1 : ds[j]? = some ds[j] := List.getElem?_eq_getElem (by omega)
        have d2 : es[j]? = some es[j] := List.getElem?_eq_getElem (by omega)
        rw [List.getD_eq_getElem?_getD, List.getD_eq_getElem?_getD, d1, d2]
        have := dpD_le d1
        exact eqAt_D I (h1 j _ _ (List.getElem?_eq_getElem g1') d1) (h2 j _ _ (List.getElem?_eq_getElem g2') d2) r1 r2 (by show A.units + 1 + _ < cLine; omega)
      rw [eqD, eqDs_range]
      by_cases hsz : ds.length = es.length
      · have q := SeqAt.RcNeAt.lists p p2 (by simp only [List.size_toArray]; omega) hu' at_
        have z : (ds.length == es.length) = true := by simpa using hsz
        rw [z, Bool.and_true, ← hsz, Nat.min_self]
        rw [List.size_toArray, ← l1, hl1] at q
        exact q
      · have z : (ds.length == es.length) = false := by simpa using hsz
        rw [z, Bool.and_false]
        exact SeqAt.RcNeAt.lists_lengths p p2 (by simp only [List.size_toArray]; simpa [bne_iff_ne] using (show its.length ≠ its2.length by omega)) hu'
    | tup e2 hl2 h2 => cases ry; obtain ⟨_, _, p2⟩ := tups e2; exact SeqAt.RcNeAt.list_tuple p p2 hu'
  | tup e1 hl1 h1 =>
    rename_i a xs ds
    have hu1 : A.units + dpDs ds + 1 < cLine := by rw [dpD] at hu; omega
    cases rx
    obtain ⟨its, rv, p⟩ := tups e1
    cases hy with
    | non => cases ry; exact SeqAt.RcNeAt.tuple_none p hu'
    | bl b => cases ry; exact SeqAt.RcNeAt.tuple_bool _ p hu'
    | int b => obtain ⟨t, rfl⟩ := ry; exact SeqAt.RcNeAt.tuple_int _ _ p hu'
    | str b => obtain ⟨t, rfl⟩ := ry; exact SeqAt.RcNeAt.tuple_str _ _ p hu'
    | lst e2 hl2 h2 => cases ry; obtain ⟨_, _, p2⟩ := lists e2; exact SeqAt.RcNeAt.tuple_list p p2 hu'
    | tup e2 hl2 h2 =>
      rename_i b ys es
      cases ry
      obtain ⟨its2, rv2, p2⟩ := tups e2
      have l1 := rv.length
      have l2 := rv2.length
      have at_ : ∀ j (g1 : j < its.toArray.size) (g2 : j < its2.toArray.size), SeqAt.EqAt A.in1 s its.toArray[j] its2.toArray[j] (eqD (ds.getD j .non) (es.getD j .non)) := fun j g1 g2 => by
        have g1' : j < xs.length := by rw [l1]; simpa using g1
        have g2' : j < ys.length := by rw [l2]; simpa using g2
        have r1 := vals_getD rv g1
        have r2 := vals_getD rv2 g2
        rw [List.getD_eq_getElem?_getD, List.getElem?_eq_getElem g1'] at r1
        rw [List.getD_eq_getElem?_getD, List.getElem?_eq_getElem g2'] at r2
        have d1 : ds[j]? = some ds[j] := List.getElem?_eq_getElem (by omega)
        have d2 : es[j]? = some es[j] := List.getElem?_eq_getElem (by omega)
        rw [List.getD_eq_getElem?_getD, List.getD_eq_getElem?_getD, d1, d2]
        have := dpD_le d1
        exact eqAt_D I (h1 j _ _ (List.getElem?_eq_getElem g1') d1) (h2 j _ _ (List.getElem?_eq_getElem g2') d2) r1 r2 (by show A.units + 1 + _ < cLine; omega)
      rw [eqD, eqDs_range]
      have q := SeqAt.RcNeAt.tuples p p2 hu' at_
      rw [List.size_toArray, List.size_toArray, ← l1, ← l2, hl1, hl2] at q
      exact q
end
section
variable {X : Cx}
def rEqD (neg : Bool) : R2 := fun x y H Q => ∃ d e, Rdt H x d ∧ Rdt H y e ∧ dpD d ≤ 60 ∧ Q (.bl (if neg then !eqD d e else eqD d e)) H
theorem op_neD (hu : X.A.units + 64 < cLine) : OpR X (compareOp .NotEq) (rEqD true) := by
  intro pins s σ H x y v u Q I rx ry h
  obtain ⟨d, e, hx, hy, hd, q⟩ := h
  exact rcNe_D I hx hy rx ry (by omega) X.prog X.w X.xe _ ⟨.bl _, H, I, rfl, q⟩
end
end L2

set_option Elab.async false
set_option maxRecDepth 100000
set_option maxHeartbeats 4000000
namespace L2
open PySem PySem.Spec PyProof.Rows
section
variable {X : Cx}

def rIndex : V → List V → Hp → VK → Prop := fun x vs H Q => ∃ a b i rest, x = .str a ∧ vs = [.str b] ∧ Builtin.Str.occurrences a b 0 a.length 1 = i :: rest ∧ Q (.int (i : Nat)) H
theorem mt_index : MtR X "str.index" rIndex := by
  intro pins s σ H x vs v us Q I rx rv h
  obtain ⟨a, b, i, rest, rfl, rfl, ho, q⟩ := h
  obtain ⟨t, rfl⟩ := rx
  obtain ⟨u, rfl, ru⟩ := rv.one
  obtain ⟨t', rfl⟩ := ru
  exact SC.index ho ⟨.int i, H, I.tok _, ⟨_, rfl⟩, q⟩
end
end L2

set_option Elab.async false
set_option maxRecDepth 100000
set_option maxHeartbeats 4000000
namespace L2
open PySem PySem.Spec PyProof.Rows
section
variable {P : Program} {w : World} {A : Around} {E : Value → Shared → Prop} {s : Shared}
theorem collect_range {QL : List Value → Shared → Prop} {r : Addr} {a b c : Int} {t u v : Tok} {n : Nat} (hh : A.handled = none) (hr : IsRange s.heap r a b c t u v) (hsmall : Builtin.Range.small a b c = true)
    (hn : Builtin.Range.rangeSize a b c = n) (hlen : n ≤ 2 ^ 24)
    (hQ : ∀ acc h' tk, ItemsOf (fun i v => ∃ t, v = .int (a + i * c) t) acc n → (∀ b o, s.heap.get? b = some o → h'.get? b = some o) → QL acc.toList { s with heap := h', toks := tk }) : wpAny (model P w) A (collect (.ref r)) QL E s := by
  unfold collect
  refine wpAny_bind (wpAny_runValue (codeAny_builtin F.entry_proto_collect ?_))
  rw [Around.under_plainId F.plain_proto_collect _]
  show wpAny _ A.in1 (newList [] >>= fun l => again (.builtin "list.__iadd__" ⟨[l, .ref r], []⟩)) _ _ s
  refine wpAny_bind (wpAny_newObj_type ?_)
  refine wpAny_pure ⟨plainId_quiet F.plain_list_iadd _, codeAny_builtin F.entry_list_iadd ?_⟩
  rw [Around.under_plainId F.plain_list_iadd _]
  show wpAny _ A.in1 (Builtin.List.listExtendWith (.ref s.heap.objs.size) (.ref r) (.ref s.heap.objs.size)) _ _ _
  refine wpAny_extend_range (R := fun r s' => match r with
              | Except.ok (Flow.ret v) =>
                wpAny (model P w) A
                  (match v with
                  | Value.ref a => do
                    let __do_lift ← load a
                    match __do_lift.data with
                      | Data.seq xs epoch => pure xs.toList
                      | x => unsupported "internal:collect"
                  | x => unsupported "internal:collect")
                  QL E s'
              | Except.ok a => False
              | Except.error e => E e s') (s := { s with heap := s.heap.push { cls := .type "list", data := .seq ([] : List Value).toArray } }) hh (Heap.get?_push_of_some _ hr) hsmall hn hlen _ _ 0 (Heap.get?_push_size _ rfl) fun h' tk acc' c' hk hS' hacc => ?_
  show wpAny _ A (load s.heap.objs.size >>= _) _ _ _
  refine wpAny_bind (wpAny_load hS' ?_)
  exact wpAny_pure (hQ acc' h' tk hacc fun b o e => hk b o (Nat.ne_of_lt (Heap.lt_size e)) (Heap.get?_push_of_some _ e))
theorem code_tuple_new_rng {Q₁ : Value → Shared → Prop} {QL : List Value → Shared → Prop} {I : Addr} (hT : s.TypeIs (.ref I) "range")
    (W : wpAny (model P w) A.in1 (collect (.ref I)) QL E s) (hsz : ∀ us s', QL us s' → us.length ≤ sizeLine)
    (h : ∀ us s', QL us s' → Q₁ (.ref s'.heap.objs.size) { s' with heap := s'.heap.push { cls := .type "tuple", data := .seq us.toArray } }) :
    codeAny (model P w) A (.call (.builtin "tuple.__new__") ⟨[.type "tuple", .ref I], []⟩) (wants Q₁ E) s := by
  refine codeAny_of_tree ?_
  show wpAny _ A.in1 (do checkBuiltinCall "tuple.__new__" ⟨[.type "tuple", .ref I], []⟩; again (.builtin "tuple.__new__" ⟨[.type "tuple", .ref I], []⟩)) _ _ s
  refine wpAny_bind (wpAny_of_eq (F.newCall_tuple_1 _) (wpAny_pure ⟨plainId_quiet F.plain_tuple_new _, codeAny_builtin F.entry_tuple_new ?_⟩))
  rw [Around.under_plainId F.plain_tuple_new _]
  have hsub := sub_tuple_self
  have hinit := init_tuple_lookup
  have hmh := madeHere_tuple
  wp_walk using wpAny_typeOf hT, wpAny_mono W
  · intro us s' hq
    show wpAny _ _ (Builtin.Tuple.tupleExact us.toArray >>= fun v => ret v) _ _ _
    unfold Builtin.Tuple.tupleExact
    refine wpAny_bind (wpAny_newObj_type ?_ (by show us.toArray.size ≤ sizeLine; rw [List.size_toArray]; exact hsz us s' hq))
    exact wpAny_pure (h us s' hq)
  · exact fun _ _ z => z
end
def rangeI (n : Nat) : List Int := (List.range n).map fun i => ((i : Nat) : Int)
section
variable {X : Cx}
theorem pe_tuplerange {e : Expr} {te : TE} {p p1 p2 pos : Pos} (hc : X.calm = true) (hg : Gl X "tuple") (hm : X.mg "tuple" = none) (hgr : Gl X "range") (hmr : X.mg "range" = none) (he : PE X e te) (hs : starEach [e] X.env = [(false, eval e X.env)] := by rfl) :
    PE X (.Call (.Name "tuple" p) [.Call (.Name "range" p1) [e] [] p2] [] pos) (fun σ H Q => te σ H fun x H1 => ∃ j : Int, x = .int j ∧ -(2 ^ 20) ≤ j ∧ j ≤ 2 ^ 20 ∧ ∀ l, H1 l = none → Q (.ref l) (upd H1 l (.tup ((rangeI j.toNat).map V.int)))) := by
  refine ⟨?_⟩
  intro pins s σ H Q I h
  refine wpAny_Call_Name_kw (ld_blt I hg hm bt_tuple ?_)
  refine PyProof.Rows.callWith_type1 ?_ rfl rfl
  show wpAny _ _ (spliced ((false, eval (.Call (.Name "range" p1) [e] [] p2) X.env) :: [])) _ _ s
  refine Calls.spliced_cons ?_
  refine Call_ (ld_blt I hgr hmr boot_range (PyProof.Rows.callWith_type1 ?_ hs rfl))
  rw [hs]
  refine Calls.spliced_cons (thn (he pins s σ H _ I h) fun v s1 ⟨x, H1, I1, r1, q1⟩ => Calls.spliced_nil ?_)
  obtain ⟨j, rfl, b1, b2, q⟩ := q1
  obtain ⟨t, rfl⟩ := r1
  refine call_range_1 ?_
  refine Calls.spliced_nil ?_
  have hh := I1.ok.hd hc
  have I2 : Inv X pins σ H1 { s1 with heap := s1.heap.push { cls := .type "range", data := .fields #[.int 0 s1.toks, .int j t, .int 1 (s1.toks + 1)] }, toks := s1.toks + 1 + 1 } := I1.kept fun b o e => Heap.get?_push_of_some _ e
  generalize hs2 : ({ s1 with heap := s1.heap.push { cls := .type "range", data := .fields #[.int 0 s1.toks, .int j t, .int 1 (s1.toks + 1)] }, toks := s1.toks + 1 + 1 } : Shared) = s2 at I2 ⊢
  have hr2 : IsRange s2.heap s1.heap.objs.size 0 j 1 s1.toks t (s1.toks + 1) := by rw [← hs2]; exact IsRange.new ..
  have hT : s2.TypeIs (.ref s1.heap.objs.size) "range" := by
    rw [← hs2]; exact ⟨_, Heap.get?_push_size _ rfl, rfl⟩
  refine callType_codes (Q₁ := fun obj s₁ => s₁.TypeIs obj "tuple" ∧ EP X pins σ Q obj s₁) F.called_tuple (F.typeCall_tuple_1 _) F.entry_object_init
    (code_tuple_new_rng (QL := fun us s' => us.length ≤ sizeLine ∧ Inv X pins σ H1 s' ∧ Vals ((rangeI j.toNat).map V.int) us) hT
      (collect_range (n := j.toNat) (by simp [hh]) hr2 (small_one (by omega) (by omega) (by omega) (by omega)) (by rw [PyProof.Rows.rangeSize_nat]; simp) (by omega) fun acc h' tk hit hk => ?_) (fun us s' q => q.1) fun us s' ⟨hl, I', rv⟩ => ⟨⟨_, Heap.get?_push_size _ rfl, rfl⟩, ?_⟩) fun obj s₁ h₁ => ?_
  · have hsz : sizeLine = 16777216 := sizeLine_eq
    refine ⟨by rw [Array.length_toList, hit.1]; omega, I2.kept hk, ?_⟩
    refine vals_of_get (by have := hit.1; simp [rangeI]; omega) fun i v e => ?_
    have hi : i < j.toNat := by
      have := (List.getElem?_eq_some_iff.mp e).1
      simpa [rangeI] using this
    have hia : i < acc.size := by rw [hit.1]; exact hi
    obtain ⟨t2, e4⟩ := hit.2 i acc[i] (by simp [hia])
    refine ⟨acc[i], by simp [hia], ?_⟩
    have e5 : v = V.int (i : Nat) := by
      have : ((rangeI j.toNat).map V.int)[i]? = some (V.int (i : Nat)) := by simp [rangeI, hi]
      rw [this] at e; exact (Option.some.inj e).symm
    rw [e4, e5]
    exact ⟨t2, by simp⟩
  · have I3 : Inv X pins σ (upd H1 s'.heap.objs.size (.tup ((rangeI j.toNat).map V.int))) { s' with heap := s'.heap.push { cls := .type "tuple", data := .seq us.toArray } } :=
      I'.laid (t' := s'.toks) (fun b o e => Heap.get?_push_of_some _ e) (Nat.le_refl _) (show ObjOk X.prog X.w _ _ _ (.tup _) from ⟨by rw [rv.length]; exact hl, us, rv, TupB.new _ _⟩)
    exact ⟨.ref s'.heap.objs.size, _, I3, rfl, q _ (I'.hok.fresh (Nat.le_refl _))⟩
  · exact ⟨h₁.1, F.args_object_init_2 obj _, object_init_meets F.called_tuple.init.lookup F.called_tuple.made (by decide) X.prog X.w X.A.in1 _ s₁ ⟨h₁.1, rfl, h₁.2⟩⟩
end
end L2

set_option Elab.async false
set_option maxRecDepth 100000
set_option maxHeartbeats 4000000
namespace L2
open PySem PySem.Spec PyProof.Rows
theorem Keep.over {H H' : Hp} {D : Addr} {o : HO} (k : Keep H H') (hD : H D = none) : Keep H (upd H' D o) := fun b u e => by
  rw [upd_ne (ne_of_none e hD)]
  exact k b u e
section
variable {J : It} {xs : List V} {te : TE} {Q : VK} {H0 : Hp} {τ0 : St} {D : Addr}
theorem Keep.ext {H H' : Hp} (k : Keep H H') {b : Addr} {φ : Heap → Prop} (h : H b = some (.ext φ)) : H' b = some (.ext φ) := k.get h (by intro ps z; cases z)
end
end L2

set_option Elab.async false
set_option maxRecDepth 100000
set_option maxHeartbeats 4000000
namespace L2
open PySem PySem.Spec PyProof.Rows

def HoI (X : Cx) (st : List Stmt) {ι : Type} (Pre : ι → St → Hp → Prop) (D : ι → Ends) : Prop := ∃ u, PSs X st u ∧ ∀ i σ H, Pre i σ H → u (D i) σ H
def HsI (X : Cx) (st : Stmt) {ι : Type} (Pre Mid : ι → St → Hp → Prop) (D : ι → Ends) : Prop := ∃ t, PS X st t ∧ ∀ i (N : St → Hp → Prop) σ H, Pre i σ H → (∀ σ' H', Mid i σ' H' → N σ' H') → t { D i with nx := N } σ H
section
variable {X : Cx} {st : Stmt} {rest : List Stmt} {ι : Type} {Pre : ι → St → Hp → Prop} {D : ι → Ends}
theorem HoI.cons (Mid : ι → St → Hp → Prop) (h1 : HsI X st Pre Mid D) (h2 : HoI X rest Mid D) : HoI X (st :: rest) Pre D := by
  obtain ⟨t, ht, q⟩ := h1
  obtain ⟨u, hu, r⟩ := h2
  exact ⟨tSeq t u, pss_cons ht hu, fun i σ H p => q i (u (D i)) σ H p (r i)⟩
theorem HoI.last (h : ∃ t, PS X st t ∧ ∀ i σ H, Pre i σ H → t (D i) σ H) : HoI X [st] Pre D := by
  obtain ⟨t, ht, q⟩ := h
  exact ⟨t, pss_one ht, q⟩
theorem HoI.nil (h : ∀ i σ H, Pre i σ H → (D i).nx σ H) : HoI X [] Pre D := ⟨tNext, pss_nil, h⟩
theorem HoI.run {Pre : Unit → St → Hp → Prop} {D : Unit → Ends} {st : List Stmt} {σ : St} {H : Hp} (p : Pre () σ H) (h : HoI X st Pre D) : ∃ t, PSs X st t ∧ t (D ()) σ H := by
  obtain ⟨u, hu, r⟩ := h
  exact ⟨u, hu, r () σ H p⟩
abbrev LpI (ι : Type) : Type := ι × Nat × V × (St → Hp → Prop)
theorem HsI.loop {bd : List Stmt} {wi : TI} {g : TG} {Mid : ι → St → Hp → Prop} (xs : ι → List V) (Pv : ι → Nat → St → Hp → Prop) (PB : LpI ι → St → Hp → Prop)
    (mk : ∀ tb, PSs X bd tb → PS X st (tFor wi g tb))
    (start : ∀ i σ H, Pre i σ H → ∀ R : It → Hp → Prop, (∀ J H1, Pv i 0 σ H1 → (∀ k σ' H', k ≤ (xs i).length → Pv i k σ' H' → Runs J (xs i) H') → R J H1) → wi σ H R)
    (bind : ∀ i k x σ H M, (xs i)[k]? = some x → Pv i k σ H → (∀ σ' H', Mid i σ' H' → M σ' H') → ∀ N : St → Hp → Prop, (∀ σ2 H2, PB (i, k, x, M) σ2 H2 → N σ2 H2) → g x σ H N)
    (body : HoI X bd PB fun j => { D j.1 with nx := Pv j.1 (j.2.1 + 1), ct := Pv j.1 (j.2.1 + 1), bk := j.2.2.2 })
    (fin : ∀ i σ H, Pv i (xs i).length σ H → Mid i σ H) : HsI X st Pre Mid D := by
  obtain ⟨u, hu, r⟩ := body
  refine ⟨_, mk u hu, fun i N σ H p hN => ?_⟩
  refine start i σ H p _ fun J H1 p1 hJ => ?_
  refine for_of (xs := xs i) (Pv i) p1 hJ (fun k x σ2 H2 hx p2 => ?_) (fun σ2 H2 p2 => hN _ _ (fin i σ2 H2 p2))
  exact bind i k x σ2 H2 N hx p2 hN _ fun σ3 H3 p3 => r (i, k, x, N) σ3 H3 p3
end
end L2

set_option Elab.async false
set_option maxRecDepth 100000
set_option maxHeartbeats 4000000
namespace L2
open PySem PySem.Spec PyProof.Rows
section
variable {X : Cx}

end
end L2

set_option Elab.async false
set_option maxRecDepth 100000
set_option maxHeartbeats 4000000
namespace L2
open PySem PySem.Spec PyProof.Rows

theorem ObjOk.there {P : Program} {w : World} {H : Hp} {h : Heap} {a : Addr} {o : HO} (x : ObjOk P w H h a o) : ∃ u, h.get? a = some u := by
  cases o with
  | lst xs => obtain ⟨_, _, _, _, e⟩ := x; exact ⟨_, e⟩
  | tup xs => obtain ⟨_, _, _, ob, e, _⟩ := x; exact ⟨_, e⟩
  | dK kvs => obtain ⟨_, _, _, _, o, _, _, e, _⟩ := x; exact ⟨_, e⟩
  | dT kvs => obtain ⟨_, _, _, _, o, _, _, e, _⟩ := x; exact ⟨_, e⟩
  | set S n => obtain ⟨o, _, _, _, e, _⟩ := x; exact ⟨_, e⟩
  | ins C dx fs => obtain ⟨_, _, _, e, _⟩ := x; exact ⟨_, e⟩
  | own y => obtain ⟨_, e⟩ := x; exact ⟨_, e⟩
  | xd fs => obtain ⟨_, ⟨_, _, _, e, _⟩, _⟩ := x; exact ⟨_, e⟩
  | rng lo hi => obtain ⟨_, _, _, e⟩ := x; exact ⟨_, e⟩
  | frz ob u => obtain ⟨e, _⟩ := x; exact ⟨_, e⟩
  | tbl ps => exact ⟨_, x⟩
  | lam ps => exact ⟨_, x⟩
  | met f y => exact ⟨_, x⟩
  | ext φ => obtain ⟨_, ⟨_, e⟩, _⟩ := x; exact ⟨_, e⟩

def CX1 (P : Program) (w : World) : CXT := fun outer H s E e s' => ∃ (a C t : Addr) (B : Heap) (H' : Hp), e = .ref a ∧ s'.os = s.os ∧ Gn s.gens.size s'.gens ∧ Heap.FlyingW B outer a (.ref C) (.ref t) s'.heap ∧
  (∀ b o, s.heap.get? b = some o → b ∉ frs outer → ∃ o', B.get? b = some o') ∧ (∀ b u, H' b = some u → ∃ o', B.get? b = some o') ∧ Un (frs outer) [] H H' s.heap s'.heap ∧ HOk P w H' s'.heap ∧ E (.ref C) none H'

section
variable {X : Cx} {pins : List (Addr × Obj)} {σ : St} {H H1 : Hp} {s s1 : Shared} {B h' : Heap}
theorem Inv.notStk (I : Inv X pins σ H s) {b : Addr} (h1 : b ≠ X.env.locals) (h2 : b ∉ X.fs) : b ∉ frs X.stack := fun z => by
  rcases List.mem_cons.mp (I.stkSub b z) with q | q
  · exact h1 q
  · exact h2 q
theorem Inv.oldNe (I : Inv X pins σ H s) {b : Addr} {o : Obj} (e : X.s₀.heap.get? b = some o) : b ≠ X.env.locals := fun z => by
  have l := Heap.lt_size e
  have := I.ok.above
  rw [← z] at this
  exact absurd l (Nat.not_lt.mpr this)

theorem Inv.fly (I1 : Inv X pins σ H1 s1) (I : Inv X pins σ H s) (c1 : ∀ b o, s1.heap.get? b = some o → b ∉ frs X.stack → ∃ o', B.get? b = some o') (c2 : ∀ b u, H b = some u → ∃ o', B.get? b = some o')
    (k : B.StaysIn s.heap) (k' : B.StaysIn h') (up : s.heap.UpToSlots h') : Inv X pins σ H { s with heap := h' } := by
  have same : ∀ b o', (∃ o2, B.get? b = some o2) → s.heap.get? b = some o' → h'.get? b = some o' := fun b o' ⟨o2, e⟩ q => by
    have z := k b o2 e
    rw [q] at z
    cases z
    exact k' b _ e
  refine ⟨I.ok, I.os, I.bare, ⟨fun b o q n hb hx => ?_, fun b o q n hb hx => ?_, I.base.free, fun b o q hx => ?_, I.base.tups, I.base.frzs, I.base.tbls⟩, ?_, fun x c e => ?_, I.free, I.freeC, fun p hp => ?_, fun a o e => ?_, I.len⟩
  · exact same b o (c1 b o (I1.base.keep b o q n hb hx) (I.notStk (I.oldNe q) hb)) (I.base.keep b o q n hb hx)
  · obtain ⟨sl, e⟩ := I.base.slot b o q n hb hx
    obtain ⟨_, o2, e2, nf⟩ := I.funs.mem hb
    rw [e] at e2
    cases e2
    obtain ⟨sl2, e4⟩ := up b { o with slots := sl } e nf
    exact ⟨sl2, e4⟩
  · obtain ⟨o', e⟩ := I.base.there b o q hx
    by_cases hb : b ∈ X.fs
    · obtain ⟨_, o2, e2, nf⟩ := I.funs.mem hb
      obtain ⟨sl, e3⟩ := up b _ e2 nf
      exact ⟨_, e3⟩
    · obtain ⟨o1, q1⟩ := I1.base.there b o q hx
      exact ⟨o', same b o' (c1 b o1 q1 (I.notStk (I.oldNe q) hb)) e⟩
  · obtain ⟨m, hn, hl⟩ := I.loc
    refine ⟨m, up.ns hn, fun i x v a b c => ?_⟩
    obtain ⟨u, r, l⟩ := hl i x v a b c
    refine ⟨u, r, ?_⟩
    rcases l with l | ⟨kd, c, ec, o, ho, hd⟩
    · exact .inl l
    · obtain ⟨sl, e⟩ := up c o ho fun vs z => by rw [hd] at z; cases z
      exact .inr ⟨kd, c, ec, _, e, hd⟩
  · obtain ⟨v, o, ho, hd⟩ := I.cell x c e
    obtain ⟨sl, e⟩ := up c o ho fun vs z => by rw [hd] at z; cases z
    exact ⟨v, _, e, hd⟩
  · obtain ⟨p1, p2, p3, p4, p5⟩ := I.pin p hp
    exact ⟨same p.1 p.2 (c1 p.1 p.2 (I1.pin p hp).1 (I.notStk p3 p4)) p1, p2, p3, p4, p5⟩
  · refine (I.hok a o e).stay (fun b u hb q => ?_) (fun _ q => q) fun _ _ q => q
    rcases hb with z | z
    · exact same b u (c2 b o (by rw [z]; exact e)) q
    · exact same b u (c2 b _ z) q
end

section
variable {P : Program} {w : World} {K : PySem.W.Frag} {mg : Str → Option Value} {base : Heap} {N : List Str} {qual : Str} {scope : Scope} {f : Addr} {cd : Value} {A : Around} {outer : List Env} {s0 : Shared} {H0 : Hp} {E : XK}

theorem pass1 : Passes (CX1 P w) (cxOf (CX1 P w) P w K mg base N qual scope f cd A outer s0 H0 E) E := by
  intro pins σ H s e s' I h
  obtain ⟨a, C, t, B, H', rfl, os, gn, fl, c1, c2, un, hok, q⟩ := h
  have I' := I.call' (ch := []) os un hok gn (fun b z => absurd z (by simp))
  refine wpAny_leaves_onW (cls := .ref C) (a0 := .ref t) I.ok.frames rfl fl fun h' fl' up => ?_
  have I2 := I.fly I' c1 c2 fl.1 fl'.1 up
  refine ⟨a, C, t, B, H', rfl, I2.os, I2.bare, fl', fun b o e n => ?_, c2, I2.base, I2.hok, q⟩
  obtain ⟨o1, e1⟩ := I.base.there b o e (fun z => absurd (show b ∈ ([] : List Addr) from z) (by simp))
  exact c1 b o1 e1 (I.notStk (I.oldNe e) n)

def Raises (X : Cx) (E : XK) : Prop := ∀ (pins : List (Addr × Obj)) (σ : St) (H : Hp) (s : Shared) (C : Addr) (h' : Heap) (a : Addr) (vs : List Value), Inv X pins σ H s → Heap.MadeExcOf s.heap h' a (.ref C) vs → E (.ref C) none H → X.xe (.ref a) { s with heap := h' }
theorem raise1 : Raises (cxOf (CX1 P w) P w K mg base N qual scope f cd A outer s0 H0 E) E := by
  intro pins σ H s C h' a vs I hx q
  have c1 : ∀ b o, s.heap.get? b = some o → b ∉ frs (cxOf (CX1 P w) P w K mg base N qual scope f cd A outer s0 H0 E).stack → ∃ o', (PySem.W.hideAll s.heap (frs (cxOf (CX1 P w) P w K mg base N qual scope f cd A outer s0 H0 E).stack)).get? b = some o' :=
    fun b o e n => ⟨o, PySem.W.hideAll_get _ e n⟩
  have c2 : ∀ b u, H b = some u → ∃ o', (PySem.W.hideAll s.heap (frs (cxOf (CX1 P w) P w K mg base N qual scope f cd A outer s0 H0 E).stack)).get? b = some o' := fun b u hu => by
    obtain ⟨o, e⟩ := (I.hok b u hu).there
    exact c1 b o e fun z => by rw [I.stkFree b z] at hu; cases hu
  have st : (PySem.W.hideAll s.heap (frs (cxOf (CX1 P w) P w K mg base N qual scope f cd A outer s0 H0 E).stack)).StaysIn s.heap := fun b o e => PySem.W.of_hideAll _ e
  refine wpAny_leaves_madeW (cls := .ref C) I.ok.frames rfl st (PySem.W.funFrames_hide I.stack fun env he b hb => List.mem_filterMap.mpr ⟨env, he, hb⟩) hx fun h'' t fl _ _ up => ?_
  have I2 := I.fly I c1 c2 st fl.1 ((Heap.UpToSlots.of_keeps hx.keeps).trans up)
  refine ⟨a, C, t, _, H, rfl, I2.os, I2.bare, fl, fun b o e n => ?_, c2, I2.base, I2.hok, q⟩
  obtain ⟨o1, e1⟩ := I.base.there b o e (fun z => absurd (show b ∈ ([] : List Addr) from z) (by simp))
  exact c1 b o1 e1 (I.notStk (I.oldNe e) n)
end

theorem exc_obj {K : PySem.W.Frag} {h : Heap} {C : Addr} {bmB : List Value} {newId : String} (X : K.In h) (q : PySem.W.excIn K C bmB newId = true) :
    ∃ bm Nn nm qn bs hd sn sub ab col dd k0 k1 k2 k3 k5 mN, h.get? C = some (excClassObj nm qn C Nn bs bm hd sn sub ab col dd k0 k1 k2 k3 k5 newId) ∧ h.Ns Nn mN ∧ mN "__init__" = none ∧ OwnTail h bmB bm := by
  unfold PySem.W.excIn at q
  split at q
  case h_2 => cases q
  case h_1 dd cd sl ho =>
    split at q
    case h_2 => cases q
    case h_1 C' bm k0 k1 k2 k3 n k5 hm hs =>
      rw [Bool.and_eq_true, Bool.and_eq_true, Bool.and_eq_true, Bool.and_eq_true, Bool.and_eq_true] at q
      obtain ⟨⟨⟨⟨⟨q1, q2⟩, q3⟩, q4⟩, q5⟩, q6⟩ := q
      have e1 : C' = C := beq_iff_eq.mp q1
      have e2 : n = newId := beq_iff_eq.mp q2
      have e3 : cd.hasDel = false := by simpa using q3
      subst e1 e2
      obtain ⟨nm, bs, mro, ns, qn, hd, sn, sub, ab, col, del⟩ := cd
      dsimp only at hm e3 q5 q6
      subst hm e3
      have es : sl = #[k0, k1, k2, k3, some (.builtin n), k5] := by
        cases sl with
        | mk l => exact congrArg Array.mk hs
      subst es
      exact ⟨bm, ns, nm, qn, bs, hd, sn, sub, ab, col, dd, k0, k1, k2, k3, k5, _, X _ _ ho, Heap.Ns.of_isNs (PySem.W.isNs_of_in X q5), PySem.W.nsMap_none_of_in X q5 (beq_iff_eq.mp q6), PySem.W.tail_of_in X q4⟩

section
variable {X : Cx} {x : Str} {C : Addr} {e₀ : Expr} {rest : List Expr} {t : TA} {bmB : List Value} {B newId initId : String} {E : XK} {np cpos pos : Pos}

def tRaise (C : Addr) (E : XK) (t : TA) : TS := fun _ σ H => t σ H fun vs H1 => vs.length ≤ sizeLine ∧ E (.ref C) none H1
theorem ps_raise (O : PySem.W.excIn X.K C bmB newId = true) (FB : ExcBaseFacts B newId initId bmB) (hc : X.calm = true) (hR : Raises X E) (hg : Gl X x) (hm : X.mg x = some (.ref C)) (ha : PA X (e₀ :: rest) t)
    (hdb : (x == ("__debug__" : Str)) = false := by decide) (he : starEach (e₀ :: rest) X.env = (false, eval e₀ X.env) :: starEach rest X.env := by rfl) (hpl : (backTo cpos (starEach rest X.env)).any (·.1) = false := by rfl) :
    PS X (.Raise (some (.Call (.Name x np) (e₀ :: rest) [] cpos)) none pos) (tRaise C E t) := by
  refine ⟨fun pins s σ H D I h => ?_⟩
  obtain ⟨bm, Nn, nm, qn, bs, hd, sn, sub, ab, col, dd, k0, k1, k2, k3, k5, mN, hC, hN, hni, T⟩ := exc_obj I.ok.mod.kin O
  have hp : (backTo cpos (starEach (e₀ :: rest) X.env)).any (·.1) = false := by
    rw [he]
    exact hpl
  have ha' := ha cpos pins s σ H _ I h
  rw [he] at ha'
  refine wpAny_Raise_call_subT (C := C) (nm := nm) (q := qn) (N := Nn) (bs := bs) (bm := bm) (hdct := hd) (sn := sn) (sub := sub) (ab := ab) (col := col) (dd := dd) (k0 := k0) (k1 := k1) (k2 := k2) (k3 := k3) (k5 := k5) FB (mN := mN)
    (T.hasType FB.hasBase) (I.ok.hd hc) hp hni (ld_glob I hg hm ⟨rfl, ?_⟩ hdb)
  rw [he]
  refine Calls.evalArgs_plain (thn ha' fun us s2 ⟨vs, H2, I2, r, l, q⟩ => ?_)
  exact ⟨rfl, by rw [← r.length]; exact l, I2.bk _ _ hC, hN.keeps I2.bk, T.keeps I2.bk, fun h' a hx => hR pins σ H2 s2 C h' a us I2 hx q⟩
end
end L2

set_option Elab.async false
set_option maxRecDepth 100000
set_option maxHeartbeats 4000000
namespace L2
open PySem PySem.Spec PyProof.Rows PySem.W Builtin Builtin.ObjectAttr Builtin.Getset_descriptor

def ExcAt (C a : Addr) (h : Heap) : Prop := ∃ o vs, h.get? a = some o ∧ o.cls = .ref C ∧ o.data = .fields vs
def excO (C a : Addr) : HO := .ext (ExcAt C a)
theorem ExcAt.stay {C a : Addr} {h h' : Heap} (x : ExcAt C a h) (k : ∀ o, h.get? a = some o → h'.get? a = some o) : ExcAt C a h' := let ⟨o, vs, e, c, d⟩ := x; ⟨o, vs, k o e, c, d⟩
structure ExcCls (K : Frag) (C : Addr) : Prop where
  cls : (clsIn K C).isSome = true
  ga : findIn K (.ref C) "__getattribute__" = some (some (.builtin "BaseException.__getattribute__"))
  gt : findIn K (.ref C) "__getattr__" = some none
  cl : findIn K (.ref C) "__class__" = some (some (.builtin "object.__class__"))
  gg : specialIn K (.builtin "object.__class__") "__get__" = some (some (.builtin "getset_descriptor.__get__"))
  tk : takesIn K (.builtin "object.__class__") = some true
  ob : mroIn K C (.type "object") = some true
  be : mroIn K C (.type "BaseException") = some true
section
variable {K : Frag} {C a : Addr} {M : Model} {h : Heap}
end
section
variable {K : Frag} {C a : Addr} {prog : Program} {w : World} {A : Around} {s : Shared} {R : Result → Shared → Prop} {EE : Value → Shared → Prop}
end
section
variable {X : Cx}
end
end L2

set_option Elab.async false
set_option maxRecDepth 100000
set_option maxHeartbeats 4000000
namespace L2
open PySem PySem.Spec PyProof.Rows PySem.W

abbrev Cx.suite (X : Cx) (a : Addr) : Cx := { X with A := X.A.mark (some (.ref a)), calm := false, xe := fun _ _ => False }
section
variable {X : Cx} {pins pins' : List (Addr × Obj)} {σ : St} {H : Hp} {s : Shared} {T : Value → Shared → Prop}
theorem Inv.suite (I : Inv X pins σ H s) (a : Addr) : Inv (X.suite a) pins σ H s :=
  ⟨⟨I.ok.mod, I.ok.kind, I.ok.glob, I.ok.blt, I.ok.above, I.ok.inj, I.ok.has, I.ok.cab, (fun z => nomatch z), I.ok.frames, I.ok.stk, I.ok.exf, I.ok.bs, I.ok.bsz, I.ok.noex, I.ok.exfs, I.ok.funs, I.ok.frf⟩,
    I.os, I.bare, I.base, I.loc, I.cell, I.free, I.freeC, I.pin, I.hok, I.len⟩
end

structure CaughtCls (K : Frag) (C0 : Addr) : Prop where
  ty : typeIn K (.ref C0) = some (.type "type")
  be : subIn K (.ref C0) (.type "BaseException") = some true
  it : (clsIn K C0).isSome = true
section
variable {X : Cx} {body suite : List Stmt} {x n : Str} {i : Nat} {np hpos pos : Pos} {b₀ : Stmt} {C0 : Addr} {tb : XK → TS} {th : TS}
end
end L2

set_option Elab.async false
set_option maxRecDepth 100000
set_option maxHeartbeats 4000000
namespace L2
open PySem PySem.Spec PyProof.Rows PySem.W

theorem passF {P : Program} {w : World} {X : Cx} : Passes (CX1 P w) X (fun _ _ _ => False) := fun _ _ _ _ _ _ _ h => by
  obtain ⟨_, _, _, _, _, _, _, _, _, _, _, _, _, q⟩ := h
  exact q.elim
theorem Fun.ok1 {P : Program} {w : World} {K : PySem.W.Frag} {mg : Str → Option Value} {base : Heap} {x qual : Str} {st : Stmt} {f : Addr} {fd : FuncData} {N ps : List Str} {k : Nat} {sp : Sp} (F : Fun K x qual st f fd) (S : FnScope N ps (defScope st)) (len : ∀ vs H Q E, sp vs H Q E → vs.length = ps.length)
    (hbody : ∀ (A : Around) (outer : List Env) (s : Shared) (H : Hp) (vs : List V) (Q : VK) (E : XK), Room k (A.deeper (envOfC qual (defScope st) s.heap.objs.size f fd.code)) → sp vs H Q E →
      ∃ t, PSs (cxOf (CX1 P w) P w K mg base N qual (defScope st) f fd.code A outer s H E) (defBody st) t ∧ t { nx := fun _ H' => Q .non H', rt := Q } (start N vs) H) : FnOk P w K mg base (CX1 P w) (k + 1) f fd ps sp := by
  obtain ⟨oc, od, kV, doc, pm, an, cdv, ct, osl, rfl, lk, hcd⟩ := F.ex
  exact fn_of lk hcd S len fun A outer s H vs Q E hr hsp => hbody A outer s H vs Q E hr hsp
def bmV : List Value := [.type "ValueError", .type "Exception", .type "BaseException", .type "object"]

def errB (K : Frag) (C0 C : Addr) : Bool := excIn K C bmV "ValueError.__new__" && (clsIn K C).isSome && findIn K (.ref C) "__getattribute__" == some (some (.builtin "BaseException.__getattribute__")) && findIn K (.ref C) "__getattr__" == some none &&
  findIn K (.ref C) "__class__" == some (some (.builtin "object.__class__")) && mroIn K C (.type "object") == some true && mroIn K C (.type "BaseException") == some true && subIn K (.ref C) (.ref C0) == some true && kitOne K (.ref C) (.type "ValueError") == some true

def errsB (K : Frag) (C0 : Addr) (cs : List Addr) : Bool := cs.all (errB K C0) && (cs.all fun C => cs.all fun D => kitOne K (.ref C) (.ref D) == some (decide (C = D))) && specialIn K (.builtin "object.__class__") "__get__" == some (some (.builtin "getset_descriptor.__get__")) && takesIn K (.builtin "object.__class__") == some true &&
  typeIn K (.ref C0) == some (.type "type") && subIn K (.ref C0) (.type "BaseException") == some true && (clsIn K C0).isSome
structure Errs (K : Frag) (C0 : Addr) (cs : List Addr) : Prop where
  ex : ∀ C ∈ cs, excIn K C bmV "ValueError.__new__" = true
  cl : ∀ C ∈ cs, ExcCls K C
  sub : ∀ C ∈ cs, subIn K (.ref C) (.ref C0) = some true
  one : ∀ C ∈ cs, ∀ D ∈ cs, kitOne K (.ref C) (.ref D) = some (decide (C = D))
  val : ∀ C ∈ cs, kitOne K (.ref C) (.type "ValueError") = some true
  top : CaughtCls K C0
theorem errs_of {K : Frag} {C0 : Addr} {cs : List Addr} (h : errsB K C0 cs = true) : Errs K C0 cs := by
  unfold errsB at h
  simp only [Bool.and_eq_true] at h
  obtain ⟨⟨⟨⟨⟨⟨h1, h2⟩, h3⟩, h4⟩, h5⟩, h6⟩, h7⟩ := h
  have all : ∀ C ∈ cs, errB K C0 C = true := List.all_eq_true.mp h1
  have part : ∀ C ∈ cs, _ := fun C hC => by
    have z := all C hC
    unfold errB at z
    simp only [Bool.and_eq_true] at z
    exact z
  refine ⟨fun C hC => (part C hC).1.1.1.1.1.1.1.1, fun C hC => ?_, fun C hC => beq_iff_eq.mp (part C hC).1.2, fun C hC D hD => beq_iff_eq.mp (List.all_eq_true.mp (List.all_eq_true.mp h2 C hC) D hD), fun C hC => beq_iff_eq.mp (part C hC).2, ⟨beq_iff_eq.mp h5, beq_iff_eq.mp h6, h7⟩⟩
  obtain ⟨⟨⟨⟨⟨⟨⟨⟨_, p1⟩, p2⟩, p3⟩, p4⟩, p5⟩, p6⟩, _⟩, _⟩ := part C hC
  exact ⟨p1, beq_iff_eq.mp p2, beq_iff_eq.mp p3, beq_iff_eq.mp p4, beq_iff_eq.mp h3, beq_iff_eq.mp h4, beq_iff_eq.mp p5, beq_iff_eq.mp p6⟩
theorem Errs.any {K : Frag} {C0 : Addr} {cs : List Addr} (E : Errs K C0 cs) {C : Addr} (hC : C ∈ cs) : ∀ {Ds : List Addr}, (∀ D ∈ Ds, D ∈ cs) → kitAny K (.ref C) (Ds.map Value.ref) = some (decide (C ∈ Ds))
  | [], _ => by simp [kitAny]
  | D :: Ds, h => by
    rw [List.map_cons]
    unfold kitAny
    rw [E.one C hC D (h D List.mem_cons_self)]
    by_cases e : C = D
    · subst e
      simp
    · have ih := E.any hC (Ds := Ds) fun D' hD => h D' (List.mem_cons_of_mem _ hD)
      simp only [e, decide_false, ih, List.mem_cons, false_or]
section
open PySem.Builtin.Str
end
end L2

set_option Elab.async false
set_option maxRecDepth 100000
set_option maxHeartbeats 4000000
namespace L2
open PySem PySem.Spec PyProof.Rows Builtin.SmallTypes

def SqIt (k : Bool) (h : Heap) (it a : Addr) (i : Nat) : Prop := if k = true then h.IsListIter it a i else h.IsTupleIter it a i
def SqIs (k : Bool) (h : Heap) (a : Addr) (items : Array Value) : Prop := if k = true then h.IsList a items else h.IsTuple a items
theorem SqIt.at {k : Bool} {h h' : Heap} {it a : Addr} {i : Nat} (x : SqIt k h it a i) (q : ∀ o, h.get? it = some o → h'.get? it = some o) : SqIt k h' it a i := by
  cases k with
  | true => exact Heap.IsListIter.at (h := h) x q
  | false => exact Heap.IsTupleIter.at (h := h) x q
theorem SqIt.obj {k : Bool} {h : Heap} {it a : Addr} {i : Nat} (x : SqIt k h it a i) : ∃ o, h.get? it = some o ∧ ∃ vs, o.data = .fields vs := by
  cases k with
  | true => obtain ⟨o, e, _, d⟩ := (show h.IsListIter it a i from x); exact ⟨o, e, _, d⟩
  | false => obtain ⟨o, e, _, d⟩ := (show h.IsTupleIter it a i from x); exact ⟨o, e, _, d⟩
theorem SqIs.obj {k : Bool} {h : Heap} {a : Addr} {items : Array Value} (x : SqIs k h a items) : ∃ o n, h.get? a = some o ∧ o.data = .seq items n := by
  cases k with
  | true => obtain ⟨o, e, _, n, d⟩ := (show h.IsList a items from x); exact ⟨o, n, e, d⟩
  | false => obtain ⟨o, e, _, n, d⟩ := (show h.IsTuple a items from x); exact ⟨o, n, e, d⟩
theorem SqIs.at {k : Bool} {h h' : Heap} {a : Addr} {items : Array Value} (x : SqIs k h a items) (q : ∀ o, h.get? a = some o → h'.get? a = some o) : SqIs k h' a items := by
  cases k with
  | true => exact Heap.IsList.at (h := h) x q
  | false => exact Heap.IsTuple.at (h := h) x q
section
variable {prog : Program} {w : World} {A : Around} {E : Value → Shared → Prop} {s : Shared} {it a : Addr} {i : Nat} {items : Array Value} {x : Value} {k : Bool}
end
end L2

set_option Elab.async false
set_option maxRecDepth 100000
set_option maxHeartbeats 4000000
namespace L2
open PySem PySem.Spec PyProof.Rows Builtin.SmallTypes
section
variable {prog : Program} {w : World} {A : Around} {E : Value → Shared → Prop} {s : Shared} {e it a : Addr} {i : Nat} {items : Array Value} {x old : Value} {k : Bool}
end
end L2

set_option Elab.async false
set_option maxRecDepth 100000
set_option maxHeartbeats 4000000
namespace L2
open PySem PySem.Spec PyProof.Rows Builtin.SmallTypes AutoSeq1
section
variable {X : Cx} {pins : List (Addr × Obj)} {σ : St} {H : Hp} {s : Shared} {h' : Heap}

end

def Sq (k : Bool) (K : PySem.W.Frag) (H : Hp) (a : Addr) (xs : List V) : Prop := if k = true then SqL K H a xs else SqT K H a xs
theorem Inv.sq {X : Cx} {pins : List (Addr × Obj)} {σ : St} {H : Hp} {s : Shared} {k : Bool} {a : Addr} {xs : List V} (I : Inv X pins σ H s) (h : Sq k X.K H a xs) : ∃ its : List Value, Vals xs its ∧ SqIs k s.heap a its.toArray := by
  cases k with
  | true => obtain ⟨its, rv, p, _⟩ := I.list (show SqL X.K H a xs from h); exact ⟨its, rv, p.isList⟩
  | false => obtain ⟨its, rv, p, _⟩ := I.tuple (show SqT X.K H a xs from h); exact ⟨its, rv, p⟩
end L2

set_option Elab.async false
set_option maxRecDepth 100000
set_option maxHeartbeats 4000000
namespace L2
open PySem PySem.Spec PyProof.Rows Builtin.SmallTypes AutoSeq1
section
variable {prog : Program} {w : World} {A : Around} {E : Value → Shared → Prop} {s : Shared}
end
section
variable {X : Cx} {l : Expr} {tl : TE} {elts : List Expr} {x1 : Nat} {tp p pos : Pos}
end

end L2

set_option Elab.async false
set_option maxRecDepth 100000
set_option maxHeartbeats 4000000
namespace L2
open PySem PySem.Spec PyProof.Rows Builtin.SmallTypes AutoSeq1
section
variable {prog : Program} {w : World} {A : Around} {E : Value → Shared → Prop} {s : Shared} {z TI TO i1 i2 l1 l2 : Addr} {n1 n2 : Nat} {xs ys : Array Value} {x y a b : Value} {k1 k2 : Bool}
end

theorem Sq.ne {X : Cx} {pins : List (Addr × Obj)} {σ : St} {H : Hp} {s : Shared} {k : Bool} {a b : Addr} {xs : List V} (I : Inv X pins σ H s) (h : Sq k X.K H a xs) (hb : FpOk X pins H b) (hd : ∀ o, s.heap.get? b = some o → ∀ xs n, o.data ≠ .seq xs n) : a ≠ b := fun e => by
  obtain ⟨its, _, sq⟩ := I.sq h
  obtain ⟨o, n, ho, hs⟩ := sq.obj
  exact hd o (e ▸ ho) _ _ hs
section
variable {prog : Program} {w : World} {A : Around} {E : Value → Shared → Prop} {s : Shared} {k1 k2 : Bool} {a1 a2 : Addr} {xs ys : Array Value}
end
section
variable {X : Cx} {l1 l2 : Expr} {t1 t2 : TE} {elts : List Expr} {x1 : Nat} {tp p pos : Pos}
end
end L2

set_option Elab.async false
set_option maxRecDepth 100000
set_option maxHeartbeats 4000000
namespace L2
open PySem PySem.Spec PyProof.Rows AutoSeq1

section
variable {X : Cx}
end
end L2

set_option Elab.async false
set_option maxRecDepth 100000
set_option maxHeartbeats 4000000
namespace L2
open PySem PySem.Spec PyProof.Rows
section
variable {X : Cx} {st : Stmt} {ι : Type} {Pre : ι → St → Hp → Prop} {D : ι → Ends}

theorem PS.nox {st : Stmt} {t : TS} (h : PS X.nox st t) : PS X st t := ⟨fun pins s σ H D I hw =>
  wpAny_mono (h pins s σ H D (I.wish _) hw) (fun _ _ q => q.unwish) fun _ _ z => False.elim z⟩
end
end L2

set_option Elab.async false
set_option maxRecDepth 100000
set_option maxHeartbeats 4000000
namespace L2
open PySem PySem.Spec PyProof.Rows

section
variable {κ : Type} [DecidableEq κ]
def valV (kvs : List (κ × V)) (k : κ) : Option V := (kvs.find? fun kv => decide (kv.1 = k)).map (·.2)

def putK (kvs : List (κ × V)) (k : κ) (v : V) : List (κ × V) :=
  if (kvs.any fun kv => decide (kv.1 = k)) = true then kvs.map (fun kv => if kv.1 = k then (kv.1, v) else kv) else kvs ++ [(k, v)]
def dropK (kvs : List (κ × V)) (k : κ) : List (κ × V) := kvs.filter fun kv => decide (kv.1 ≠ k)

theorem valV_pos {p : κ × V} {r : List (κ × V)} {k : κ} (e : p.1 = k) : valV (p :: r) k = some p.2 := by simp [valV, List.find?_cons, e]
theorem valV_neg {p : κ × V} {r : List (κ × V)} {k : κ} (e : ¬ p.1 = k) : valV (p :: r) k = valV r k := by simp [valV, List.find?_cons, e]
theorem valV_any (k : κ) : ∀ kvs : List (κ × V), (kvs.any fun kv => decide (kv.1 = k)) = (valV kvs k).isSome
  | [] => rfl
  | p :: r => by
    rw [List.any_cons]
    by_cases e : p.1 = k
    · simp only [valV_pos e, decide_eq_true e, Bool.true_or, Option.isSome_some]
    · rw [valV_neg e, decide_eq_false e, Bool.false_or]; exact valV_any k r
theorem length_putK (kvs : List (κ × V)) (k : κ) (v : V) : (putK kvs k v).length ≤ kvs.length + 1 := by
  unfold putK
  split
  · rw [List.length_map]; omega
  · rw [List.length_append, List.length_cons, List.length_nil]; omega
theorem RelO.isSome_eq {o : Option V} {u : Option Value} (r : RelO o u) : o.isSome = u.isSome := by
  cases o with
  | none => cases u with
    | none => rfl
    | some _ => exact (show False from r).elim
  | some _ => cases u with
    | none => exact (show False from r).elim
    | some _ => rfl
theorem RelO.getD {o : Option V} {u : Option Value} {d : V} {d' : Value} (r : RelO o u) (rd : RelV d d') : RelV (o.getD d) (u.getD d') := by
  cases o with
  | none => cases u with
    | none => exact rd
    | some _ => exact (show False from r).elim
  | some _ => cases u with
    | none => exact (show False from r).elim
    | some _ => exact r

theorem KV.val {kvs : List (κ × V)} {vs : List (κ × Value)} (r : KV kvs vs) (k : κ) : RelO (valV kvs k) (valueAt vs k) := by
  unfold KV at r
  induction r with
  | nil => exact True.intro
  | @cons p q ps qs h t ih =>
    obtain ⟨h1, h2⟩ := h
    by_cases e : p.1 = k
    · have e' : q.1 = k := h1.symm.trans e
      have b : valueAt (q :: qs) k = some q.2 := by simp [valueAt, List.find?_cons, e']
      rw [valV_pos e, b]; exact h2
    · have e' : ¬ q.1 = k := fun z => e (h1.trans z)
      have b : valueAt (q :: qs) k = valueAt qs k := by simp [valueAt, List.find?_cons, e']
      rw [valV_neg e, b]; exact ih
theorem KV.any {kvs : List (κ × V)} {vs : List (κ × Value)} (r : KV kvs vs) (k : κ) : (kvs.any fun kv => decide (kv.1 = k)) = vs.any fun kv => decide (kv.1 = k) := by
  unfold KV at r
  induction r with
  | nil => rfl
  | cons h t ih => rw [List.any_cons, List.any_cons, ih, h.1]
theorem KV.repl {kvs : List (κ × V)} {vs : List (κ × Value)} (r : KV kvs vs) (k : κ) {y : V} {u : Value} (ry : RelV y u) :
    KV (kvs.map fun kv => if kv.1 = k then (kv.1, y) else kv) (vs.map fun kv => if kv.1 = k then (kv.1, u) else kv) := by
  unfold KV at r ⊢
  induction r with
  | nil => exact .nil
  | @cons p q ps qs h t ih =>
    rw [List.map_cons, List.map_cons]
    refine .cons ?_ ih
    obtain ⟨h1, h2⟩ := h
    by_cases e : p.1 = k
    · rw [if_pos e, if_pos (h1.symm.trans e)]; exact ⟨h1, ry⟩
    · rw [if_neg e, if_neg (fun z => e (h1.trans z))]; exact ⟨h1, h2⟩
theorem KV.put {kvs : List (κ × V)} {vs : List (κ × Value)} (r : KV kvs vs) (k : κ) {y : V} {u : Value} (ry : RelV y u) : KV (putK kvs k y) (stored vs k u) := by
  unfold putK stored
  rw [r.any k]
  by_cases e : (vs.any fun kv => decide (kv.1 = k)) = true
  · rw [if_pos e, if_pos e]; exact r.repl k ry
  · rw [if_neg e, if_neg e]; exact Paired.snoc r ⟨rfl, ry⟩
theorem KV.drop {kvs : List (κ × V)} {vs : List (κ × Value)} (r : KV kvs vs) (k : κ) : KV (dropK kvs k) (without vs k) := by
  unfold KV at r ⊢
  unfold dropK without
  induction r with
  | nil => exact .nil
  | @cons p q ps qs h t ih =>
    obtain ⟨h1, h2⟩ := h
    rw [List.filter_cons, List.filter_cons]
    by_cases e : p.1 = k
    · have a : ¬ decide (p.1 ≠ k) = true := by simp [e]
      have b : ¬ decide (q.1 ≠ k) = true := by simp [h1.symm.trans e]
      rw [if_neg a, if_neg b]; exact ih
    · have e' : ¬ q.1 = k := fun z => e (h1.trans z)
      have a : decide (p.1 ≠ k) = true := by simp [e]
      have b : decide (q.1 ≠ k) = true := by simp [e']
      rw [if_pos a, if_pos b]; exact .cons ⟨h1, h2⟩ ih
theorem KV.length {kvs : List (κ × V)} {vs : List (κ × Value)} (r : KV kvs vs) : kvs.length = vs.length := Paired.length r
end

theorem kV_is {P : Program} {w : World} {k : Key} {u : Value} (r : RelV (kV k) u) : (mixKind P w).is k u = true := by
  cases k with
  | inl i => obtain ⟨t, e⟩ := (show ∃ t, u = Value.int i t from r); subst e; exact mixKind_int P w i t
  | inr x => obtain ⟨t, e⟩ := (show ∃ t, u = Value.str x t from r); subst e; exact mixKind_str P w x t
theorem items_are {P : Program} {w : World} : ∀ {ks : List Key} {us : List Value}, Vals (ks.map kV) us → ItemsAre (mixKind P w) ks us
  | [], _, r => by rw [List.map_nil] at r; cases r; exact .nil
  | k :: ks, _, r => by
    rw [List.map_cons] at r
    cases r with
    | cons h t => exact .cons (kV_is h) (items_are t)

abbrev KT (H : Hp) : List (List Key × V) → List (List Key × Addr × Value) → Prop := Paired fun p q => p.1 = q.1 ∧ H q.2.1 = some (.tup (p.1.map kV)) ∧ RelV p.2 q.2.2
theorem KT.val {H : Hp} {kvs : List (List Key × V)} {xs : List (List Key × Addr × Value)} (r : KT H kvs xs) (k : List Key) : RelO (valV kvs k) ((atKey xs k).map (·.2)) := by
  induction r with
  | nil => exact True.intro
  | @cons p q ps qs h t ih =>
    obtain ⟨h1, _, h2⟩ := h
    by_cases e : p.1 = k
    · have e' : q.1 = k := h1.symm.trans e
      have b : atKey (q :: qs) k = some q.2 := by simp [atKey, List.find?_cons, e']
      rw [valV_pos e, b]; exact h2
    · have e' : ¬ q.1 = k := fun z => e (h1.trans z)
      have b : atKey (q :: qs) k = atKey qs k := by simp [atKey, List.find?_cons, e']
      rw [valV_neg e, b]; exact ih
theorem KT.repl {H : Hp} {kvs : List (List Key × V)} {xs : List (List Key × Addr × Value)} (r : KT H kvs xs) (k : List Key) {y : V} {u : Value} (ry : RelV y u) :
    KT H (kvs.map fun kv => if kv.1 = k then (kv.1, y) else kv) (xs.map (putAt k u)) := by
  induction r with
  | nil => exact .nil
  | @cons p q ps qs h t ih =>
    rw [List.map_cons, List.map_cons]
    refine .cons ?_ ih
    obtain ⟨h1, h2, h3⟩ := h
    unfold putAt
    by_cases e : p.1 = k
    · rw [if_pos e, if_pos (h1.symm.trans e)]; exact ⟨h1, h2, ry⟩
    · rw [if_neg e, if_neg (fun z => e (h1.trans z))]; exact ⟨h1, h2, h3⟩
theorem KT.put {H : Hp} {kvs : List (List Key × V)} {xs : List (List Key × Addr × Value)} (r : KT H kvs xs) (k : List Key) {b : Addr} {y : V} {u : Value} (hb : H b = some (.tup (k.map kV))) (ry : RelV y u) :
    KT H (putK kvs k y) (storedH xs k b u) := by
  have e : (kvs.any fun kv => decide (kv.1 = k)) = (atKey xs k).isSome := by
    rw [valV_any, (r.val k).isSome_eq, Option.isSome_map]
  unfold putK storedH
  rw [e]
  by_cases q : (atKey xs k).isSome = true
  · rw [if_pos q, if_pos q]; exact r.repl k ry
  · rw [if_neg q, if_neg q]; exact Paired.snoc r ⟨rfl, hb, ry⟩
theorem KT.keeps {H H' : Hp} {kvs : List (List Key × V)} {xs : List (List Key × Addr × Value)} (r : KT H kvs xs) (ht : ∀ b ys, H b = some (.tup ys) → H' b = some (.tup ys)) : KT H' kvs xs :=
  Paired.mapP r fun _ _ z => ⟨z.1, ht _ _ z.2.1, z.2.2⟩

section
variable {P : Program} {w : World} {H : Hp} {h : Heap} {a : Addr}
theorem rd_of {u : HO} (ok : HOk P w H h) (e : Rd H a u) : ObjOk P w H h a u := e.ok ok
theorem dk_rd {kvs : List (Key × V)} (ok : HOk P w H h) (e : Rd H a (.dK kvs)) : kvs.length ≤ sizeLine ∧ (a == sysModules) = false ∧ ∃ vs, KV kvs vs ∧ h.DictOf (mixKind P w) a vs :=
  show ObjOk P w H h a (.dK kvs) from rd_of ok e
theorem dk_of {kvs : List (Key × V)} (ok : HOk P w H h) (e : H a = some (.dK kvs)) : kvs.length ≤ sizeLine ∧ (a == sysModules) = false ∧ ∃ vs, KV kvs vs ∧ h.DictOf (mixKind P w) a vs := dk_rd ok (.inl e)

theorem key_of {ks : List Key} (ok : HOk P w H h) (e : H a = some (.tup (ks.map kV))) : (tupleKind (mixKind P w)).is h ks a := by
  obtain ⟨_, its, r, o, h1, h2, n, h3, _⟩ := (show ObjOk P w H h a (.tup (ks.map kV)) from ok a _ e)
  exact ⟨o, its.toArray, n, h1, h2, h3, by simpa using items_are r⟩
theorem dt_rd {kvs : List (List Key × V)} (ok : HOk P w H h) (e : Rd H a (.dT kvs)) : kvs.length ≤ sizeLine ∧ (a == sysModules) = false ∧
    ∃ xs, KT H kvs xs ∧ h.DictOfH (tupleKind (mixKind P w)) a xs := by
  obtain ⟨z, y, xs, r, o, es, ep, h1, h2, h3, h4, h5⟩ := (show ObjOk P w H h a (.dT kvs) from rd_of ok e)
  refine ⟨z, y, xs, r, o, es, ep, h1, h2, h3, h4, fun x hx => ?_, h5⟩
  have all : ∀ {l : List (List Key × V)} {m : List (List Key × Addr × Value)}, KT H l m → ∀ x ∈ m, (tupleKind (mixKind P w)).is h x.1 x.2.1 := by
    intro l m q
    induction q with
    | nil => intro x hx; exact nomatch hx
    | @cons p q ps qs hq t ih =>
      intro x hx
      rcases List.mem_cons.mp hx with e | hx
      · subst e
        exact key_of ok (by rw [← hq.1]; exact hq.2.1)
      · exact ih x hx
  exact all r x hx
theorem dt_of {kvs : List (List Key × V)} (ok : HOk P w H h) (e : H a = some (.dT kvs)) : kvs.length ≤ sizeLine ∧ (a == sysModules) = false ∧
    ∃ xs, KT H kvs xs ∧ h.DictOfH (tupleKind (mixKind P w)) a xs := dt_rd ok (.inl e)
end

def DGet (H : Hp) (a : Addr) (y : V) (r : Option V) : Prop :=
  (∃ kvs k, Rd H a (.dK kvs) ∧ y = kV k ∧ r = valV kvs k) ∨ ∃ kvs k b, Rd H a (.dT kvs) ∧ y = .ref b ∧ H b = some (.tup (k.map kV)) ∧ r = valV kvs k

def DPut (H : Hp) (a : Addr) (y v : V) (H' : Hp) : Prop :=
  (∃ kvs k, H a = some (.dK kvs) ∧ y = kV k ∧ kvs.length < sizeLine ∧ H' = upd H a (.dK (putK kvs k v))) ∨
  ∃ kvs k b, H a = some (.dT kvs) ∧ y = .ref b ∧ H b = some (.tup (k.map kV)) ∧ kvs.length < sizeLine ∧ H' = upd H a (.dT (putK kvs k v))
theorem DGet.k {H : Hp} {a : Addr} {kvs : List (Key × V)} {k : Key} (e : H a = some (.dK kvs)) : DGet H a (kV k) (valV kvs k) := .inl ⟨kvs, k, .inl e, rfl, rfl⟩
theorem DGet.t {H : Hp} {a b : Addr} {kvs : List (List Key × V)} {k : List Key} (e : H a = some (.dT kvs)) (eb : H b = some (.tup (k.map kV))) : DGet H a (.ref b) (valV kvs k) := .inr ⟨kvs, k, b, .inl e, rfl, eb, rfl⟩
theorem DPut.k {H : Hp} {a : Addr} {kvs : List (Key × V)} {k : Key} {v : V} (e : H a = some (.dK kvs)) (hl : kvs.length < sizeLine) : DPut H a (kV k) v (upd H a (.dK (putK kvs k v))) := .inl ⟨kvs, k, e, rfl, hl, rfl⟩
theorem DPut.t {H : Hp} {a b : Addr} {kvs : List (List Key × V)} {k : List Key} {v : V} (e : H a = some (.dT kvs)) (eb : H b = some (.tup (k.map kV))) (hl : kvs.length < sizeLine) :
    DPut H a (.ref b) v (upd H a (.dT (putK kvs k v))) := .inr ⟨kvs, k, b, e, rfl, eb, hl, rfl⟩

section
variable {X : Cx} {pins : List (Addr × Obj)} {σ : St} {H : Hp} {s : Shared} {a : Addr} {y v : V} {u r : Value} {o : Option V} {A : Around} {E : Value → Shared → Prop}

theorem Inv.big (I : Inv X pins σ H s) : sysModules < s.heap.objs.size := by
  have h : mainGlobals < s.heap.objs.size := (I.mod.glob.keeps I.bk).lt
  exact Nat.lt_trans (by decide) h

theorem d_getItem {Q : Value → Shared → Prop} (hu : A.units + 1 < cLine) (I : Inv X pins σ H s) (g : DGet H a y (some v)) (ry : RelV y u) (h : ∀ w' s', Inv X pins σ H s' → RelV v w' → Q w' s') :
    wpAny (model X.prog X.w) A (getItem (.ref a) u) Q E s := by
  rcases g with ⟨kvs, k, e, ey, l⟩ | ⟨kvs, k, b, e, ey, eb, l⟩
  · subst ey
    obtain ⟨z, hd, vs, rel, dd⟩ := dk_rd I.hok e
    obtain ⟨w', hw, rw'⟩ := RelO.some_of (v := v) (o := valueAt vs k) (by rw [l]; exact rel.val k)
    exact wpAny_getItem_of (kV_is ry) dd.mapOf hw (h w' _ (I.tok _) rw')
  · subst ey
    cases (show u = Value.ref b from ry)
    obtain ⟨z, hd, xs, rel, dd⟩ := dt_rd I.hok e
    obtain ⟨w', hw, rw'⟩ := RelO.some_of (v := v) (o := (atKey xs k).map (·.2)) (by rw [l]; exact rel.val k)
    obtain ⟨p, hp, hp2⟩ := Option.map_eq_some_iff.mp hw
    refine wpAny_getItem_heap (tupleKind_room_in1 hu) (key_of I.hok eb) dd hp ?_
    rw [hp2]
    exact h w' _ (I.tok _) rw'

theorem d_notIn {Q : Value → Shared → Prop} (hu : A.units + 1 < cLine) (I : Inv X pins σ H s) (g : DGet H a y o) (ry : RelV y u) (h : ∀ s', Inv X pins σ H s' → Q (.bool (!o.isSome)) s') :
    wpAny (model X.prog X.w) A (compareOp .NotIn u (.ref a)) Q E s := by
  rcases g with ⟨kvs, k, e, ey, l⟩ | ⟨kvs, k, b, e, ey, eb, l⟩
  · subst ey
    obtain ⟨z, hd, vs, rel, dd⟩ := dk_rd I.hok e
    refine wpAny_notIn_of (kV_is ry) hd dd.mapOf ?_
    rw [← (rel.val k).isSome_eq, ← l]
    exact h _ (I.tok _)
  · subst ey
    cases (show u = Value.ref b from ry)
    obtain ⟨z, hd, xs, rel, dd⟩ := dt_rd I.hok e
    refine wpAny_notIn_heap (tupleKind_room_in1 hu) (key_of I.hok eb) hd dd ?_
    have q := (rel.val k).isSome_eq
    rw [Option.isSome_map] at q
    rw [← q, ← l]
    exact h _ (I.tok _)

theorem d_write {h' : Heap} {t' : Nat} {ob : HO} (I : Inv X pins σ H s) (mu : Mut (H a)) (hs : Heap.SameBut a s.heap h') (he : ∃ q, h'.get? a = some q) (new : ObjOk X.prog X.w (upd H a ob) h' a ob) :
    Inv X pins σ (upd H a ob) { s with heap := h', toks := t' } :=
  I.write (x := a) (e := a) mu (.inl rfl) (fun b q hb z => (hs.2 b hb).trans z) he new
theorem dk_new {P : Program} {w : World} {H' : Hp} {h' : Heap} {kvs : List (Key × V)} {vs : List (Key × Value)} (z : kvs.length ≤ sizeLine) (hd : (a == sysModules) = false) (rel : KV kvs vs) (dd : h'.DictOf (mixKind P w) a vs) :
    ObjOk P w H' h' a (.dK kvs) := ⟨z, hd, vs, rel, dd⟩

theorem d_setItem {H' : Hp} {Q : Unit → Shared → Prop} (hu : A.units + 1 < cLine) (I : Inv X pins σ H s) (g : DPut H a y v H') (ry : RelV y u) (rv : RelV v r) (h : ∀ s', Inv X pins σ H' s' → Q () s') :
    wpAny (model X.prog X.w) A (setItem (.ref a) u r) Q E s := by
  rcases g with ⟨kvs, k, e, ey, l, eH⟩ | ⟨kvs, k, b, e, ey, eb, l, eH⟩
  · subst ey eH
    obtain ⟨z, hd, vs, rel, dd⟩ := dk_of I.hok e
    have hz : vs.length ≤ sizeLine := by rw [← rel.length]; exact z
    have hl : (putK kvs k v).length ≤ sizeLine := by have := length_putK kvs k v; omega
    refine wpAny_setItem_pairs (hsz := hz) (kV_is ry) dd fun h' dd' hs => h _ ?_
    have he : ∃ q, h'.get? a = some q := let ⟨q, _, _, hq, _⟩ := dd'; ⟨q, hq⟩
    exact d_write I (by rw [e]; exact True.intro) hs he (dk_new hl hd (rel.put k rv) dd')
  · subst ey eH
    cases (show u = Value.ref b from ry)
    obtain ⟨z, hd, xs, rel, dd⟩ := dt_of I.hok e
    have hz : xs.length ≤ sizeLine := by rw [← Paired.length rel]; exact z
    have hl : (putK kvs k v).length ≤ sizeLine := by have := length_putK kvs k v; omega
    refine wpAny_setItem_heap (hsz := hz) (tupleKind_room_in1 hu) (key_of I.hok eb) dd fun h' dd' hs => h _ ?_
    obtain ⟨q, es, ep, hq, h2, h3, h4, _, h5⟩ := dd'
    refine d_write I (by rw [e]; exact True.intro) hs ⟨q, hq⟩ ⟨hl, hd, _, (rel.put k eb rv).keeps fun c ys ec => ?_, q, es, ep, hq, h2, h3, h4, h5⟩
    rw [upd_ne (ne_of ec e (fun z => nomatch z))]
    exact ec
end

section
variable {X : Cx} {pins : List (Addr × Obj)} {σ : St} {H : Hp} {s : Shared} {a : Addr} {kvs : List (Key × V)} {k : Key} {u : Value} {A : Around} {E : Value → Shared → Prop}

end

def NoSl (i : Expr) : Prop := ∀ ov iv, subscripted i false ov iv = operate [ov, iv] (getItem ov iv)
theorem subD_of {prog : Program} {w : World} {A : Around} {E : Value → Shared → Prop} {s : Shared} {env : Env} {value slice : Expr} {pos : Pos} {T id : String} {Q : Value → Shared → Prop}
    (hl : typeLookup (.type T) "__getitem__" = pure (some (.builtin id))) (hs : NoSl slice)
    (h : wpAny (model prog w) A (eval value env) (fun o s₁ => wpAny (model prog w) A (eval slice env) (fun i s₂ => s₂.TypeIs o T ∧ wpAny (model prog w) A (getItem o i) Q E s₂) E s₁) E s) :
    wpAny (model prog w) A (eval (.Subscript value slice pos) env) Q E s := by
  refine Subscript_ (wpAny_mono h (fun o s₁ h₁ => wpAny_mono h₁ (fun i s₂ h₂ => ?_) fun _ _ x => x) fun _ _ x => x)
  obtain ⟨hT, h₂⟩ := h₂
  unfold subscriptTail
  refine wpAny_bind ?_
  rw [getitemInPython_of_ne hT.not_modules]
  refine wpAny_bind (wpAny_specialOf hT hl ?_)
  have fin : wpAny (model prog w) A (subscripted slice false o i) (fun r s₃ => wpAny (model prog w) A (letTemporaryGo value o r >>= fun _ => pure r) Q E s₃) E s₂ := by
    rw [hs o i]
    exact wpAny_operating (wpAny_mono h₂ (fun r s₃ h₃ => wpAny_bind (wpAny_letTemporaryGo (wpAny_pure h₃))) fun _ _ x => x)
  first
    | exact wpAny_pure (wpAny_bind fin)
    | exact wpAny_bind (wpAny_pure (wpAny_bind fin))
    | exact wpAny_bind fin

theorem dict_typeIs {X : Cx} {pins : List (Addr × Obj)} {σ : St} {H : Hp} {s : Shared} {a : Addr} {y : V} {o : Option V} (I : Inv X pins σ H s) (g : DGet H a y o) : s.TypeIs (.ref a) "dict" := by
  rcases g with ⟨kvs, k, e, _, _⟩ | ⟨kvs, k, b, e, _, _, _⟩
  · obtain ⟨_, _, vs, _, dd⟩ := dk_rd I.hok e
    exact dd.typeIs
  · obtain ⟨_, _, xs, _, dd⟩ := dt_rd I.hok e
    exact dd.typeIs
def tDGet (td ty : TE) : TE := fun σ H Q => td σ H fun x H1 => ty σ H1 fun y H2 => ∃ a v, x = .ref a ∧ DGet H2 a y (some v) ∧ Q v H2

def sDPut (td ty tv : TE) : TS := fun D σ H => tv σ H fun v H1 => td σ H1 fun x H2 => ty σ H2 fun y H3 => ∃ a H4, x = .ref a ∧ DPut H3 a y v H4 ∧ D.nx σ H4

section
variable {X : Cx} {o i e value : Expr} {pos pos' tpos : Pos} {td ty tv : TE}
theorem pe_dget (hu : X.A.units + 1 < cLine) (ho : PE X o td) (hi : PE X i ty) (hs : NoSl i) : PE X (.Subscript o i pos) (tDGet td ty) := by
  refine ⟨?_⟩
  intro pins s σ H Q I h
  refine subD_of PySem.F.slot_dict_getitem.lookup hs (thn (ho pins s σ H _ I h) fun u s1 ⟨x, H1, I1, rx, q1⟩ => thn (hi pins s1 σ H1 _ I1 q1) fun iv s2 ⟨y, H2, I2, ry, a, v, ex, g, q2⟩ => ?_)
  subst ex
  obtain rfl : u = Value.ref a := rx
  exact ⟨dict_typeIs I2 g, d_getItem hu I2 g ry fun w' s3 I3 rw' => ⟨v, H2, I3, rw', q2⟩⟩
theorem ps_dput (hu : X.A.units + 1 < cLine) (ho : PE X o td) (hi : PE X i ty) (hv : PE X value tv) (hs : swapsWith value (some (.Subscript o i pos')) pos.line X.env = pure false) :
    PS X (.Assign [.Subscript o i pos'] value pos) (sDPut td ty tv) := by
  refine ⟨?_⟩
  intro pins s σ H D I h
  refine wpAny_Assign_Subscript (thn (hv pins s σ H _ I h) fun r s1 ⟨v, H1, I1, rv, q1⟩ => thn (ho pins s1 σ H1 _ I1 q1) fun u s2 ⟨x, H2, I2, rx, q2⟩ => thn (hi pins s2 σ H2 _ I2 q2) fun iv s3 ⟨y, H3, I3, ry, a, H4, ex, g, q3⟩ => ?_) hs
  subst ex
  obtain rfl : u = Value.ref a := rx
  exact d_setItem hu I3 g ry rv fun s4 I4 => ⟨σ, H4, I4, q3⟩
end

theorem dt_empty {P : Program} {w : World} {H : Hp} (h : Heap) (hb : sysModules < h.objs.size) : ObjOk P w H (h.push { cls := .type "dict", data := .dict #[] }) h.objs.size (.dT []) :=
  ⟨Nat.zero_le _, beq_eq_false_iff_ne.mpr (Ne.symm (Nat.ne_of_lt hb)), [], .nil, _, #[], 0, Heap.get?_push_size _ rfl, ⟨rfl, rfl, rfl⟩, rfl, rfl, List.nodup_nil⟩

def tDNewT : TE := fun _ H Q => ∀ p, H p = none → Q (.ref p) (upd H p (.dT []))
section
variable {X : Cx} {pos : Pos}
theorem pe_dnewT : PE X (.Dict [] [] pos) tDNewT := ⟨fun pins s σ H Q I h =>
  wpAny_Dict_empty ⟨.ref s.heap.objs.size, _, I.laid (a := s.heap.objs.size) (o := .dT []) (t' := s.toks) (fun _ _ q => Heap.get?_push_of_some _ q) (Nat.le_refl _) (dt_empty s.heap I.big), rfl, h _ (I.hok.fresh (Nat.le_refl _))⟩⟩
end

structure M1 (X : Cx) (o : Expr) (m : Str) (apos : Pos) (e : Expr) (cpos : Pos) : Prop where
  base : attributeBase o m X.env (eval o X.env) = eval o X.env
  few : ((backTo cpos (starEach [e] X.env)).all (fun x => !x.1) && (backToKw cpos (keywordEach [] X.env)).all (fun x => x.1.isSome)
    && decide (([e] : List Expr).length + ([] : List Keyword).length + (if ([] : List Keyword).isEmpty then 0 else 1) < 30)) = true
  line : (apos.endLine == cpos.line) = true
  trees : backTo cpos (starEach [e] X.env) = [(false, eval e X.env)]
structure M2 (X : Cx) (o : Expr) (m : Str) (apos : Pos) (e f : Expr) (cpos : Pos) : Prop where
  base : attributeBase o m X.env (eval o X.env) = eval o X.env
  few : ((backTo cpos (starEach [e, f] X.env)).all (fun x => !x.1) && (backToKw cpos (keywordEach [] X.env)).all (fun x => x.1.isSome)
    && decide (([e, f] : List Expr).length + ([] : List Keyword).length + (if ([] : List Keyword).isEmpty then 0 else 1) < 30)) = true
  line : (apos.endLine == cpos.line) = true
  trees : backTo cpos (starEach [e, f] X.env) = [(false, eval e X.env), (false, eval f X.env)]

section
variable {X : Cx} {pins : List (Addr × Obj)} {σ : St} {H : Hp} {s : Shared} {a : Addr} {y d : V} {u r : Value} {o : Option V} {A : Around} {E : Value → Shared → Prop}

end

section
variable {X : Cx} {o e f : Expr} {apos cpos : Pos} {td ty tx : TE}
end

section
variable {X : Cx} {pins : List (Addr × Obj)} {σ : St} {H : Hp} {s : Shared} {a : Addr} {kvs : List (Key × V)} {A : Around} {E : Value → Shared → Prop}
end

section
variable {X : Cx} {pins : List (Addr × Obj)} {σ : St} {H : Hp} {s : Shared} {a : Addr} {y : V} {u : Value} {A : Around} {E : Value → Shared → Prop}

end

end L2

set_option Elab.async false
set_option maxRecDepth 100000
set_option maxHeartbeats 4000000
namespace L2
open PySem PySem.Spec PyProof.Rows

inductive Dv where
  | int (i : Int) | bl (b : Bool) | non | str (z : Str) | tup (xs : List Dv) | lst (xs : List Dv) | set (ns : List Int) | ptr (a : Addr) | exc (C : Addr) | scr (ns : List Int) | raw (v : V) | dk (ks : List Key) (ds : List Dv) | dt (ks : List (List Key)) (ds : List Dv) | clo (f : Addr) (o : Obj) (c : Addr) (oc : Obj) (vs : List V) (ds : List Dv)
inductive Mo where
  | lst (xs : List Dv) | bag | dk (ks : List Key) (ds : List Dv) | dt (ks : List (List Key)) (ds : List Dv)
abbrev Mh := Addr → Option Mo

structure Tbs where
  g : List Addr
  l : List (Addr × Str)
instance : Membership Addr Tbs := ⟨fun t a => a ∈ t.g⟩

def isTab : HO → Bool
  | .tbl _ => true
  | .lam _ => true
  | .dK _ => true
  | .dT _ => true
  | _ => false
def notTbl : HO → Bool
  | .tbl _ => false
  | _ => true
def dicB : HO → Bool
  | .dK _ => true
  | .dT _ => true
  | _ => false
theorem Rd.map {H H' : Hp} {a : Addr} {u : HO} (e : Rd H a u) (k : ∀ x, H a = some x → H' a = some x) : Rd H' a u := e.imp (k _) fun ⟨o, h⟩ => ⟨o, k _ h⟩
theorem Rd.mapB {H H' : Hp} {a : Addr} {u : HO} (e : Rd H a u) (hu : dicB u = true) (k : ∀ x, notTbl x = true → H a = some x → H' a = some x) : Rd H' a u := e.imp (k _ (by cases u <;> first | rfl | cases hu)) fun ⟨o, h⟩ => ⟨o, k _ rfl h⟩
theorem Rd.there {H : Hp} {a : Addr} {u : HO} (e : Rd H a u) : ∃ x, H a = some x := e.elim (fun h => ⟨_, h⟩) fun ⟨o, h⟩ => ⟨_, h⟩

def Tg (o o' : HO) : Prop := (∃ ps ps' : Array Value, o = .tbl ps ∧ o' = .tbl ps' ∧ TriplesOk ps'.toList) ∨ (∃ ps ps' : Array Value, o = .lam ps ∧ o' = .lam ps') ∨ (dicB o = true ∧ ∃ ob, o' = .frz ob o)
theorem Tg.trans {a b c : HO} (x : Tg a b) (y : Tg b c) : Tg a c := by
  rcases x with ⟨p, q, rfl, rfl, t⟩ | ⟨p, q, rfl, rfl⟩ | ⟨hd, ob, rfl⟩
  · rcases y with ⟨p2, q2, e, rfl, t2⟩ | ⟨p2, q2, e, _⟩ | ⟨e, _⟩
    · exact .inl ⟨p, q2, rfl, rfl, t2⟩
    · cases e
    · cases e
  · rcases y with ⟨p2, q2, e, _⟩ | ⟨p2, q2, e, rfl⟩ | ⟨e, _⟩
    · cases e
    · exact .inr (.inl ⟨p, q2, rfl, rfl⟩)
    · cases e
  · rcases y with ⟨p2, q2, e, _⟩ | ⟨p2, q2, e, _⟩ | ⟨e, _⟩ <;> cases e
theorem Tg.tab {a b : HO} (x : Tg a b) : isTab a = true := by
  rcases x with ⟨p, q, rfl, rfl, _⟩ | ⟨p, q, rfl, rfl⟩ | ⟨hd, ob, rfl⟩
  · rfl
  · rfl
  · cases a <;> first | rfl | cases hd

def IsCd (H : Hp) (q : Str) (cv : Value) : Prop := ∃ (c : Addr) (oc : Obj) (u : HO) (vs : Array Value) (t : Tok), cv = Value.ref c ∧ H c = some (.frz oc u) ∧ oc.data = .fields vs ∧ vs[1]? = some (Value.str q t)

def Lm (H : Hp) (p : Addr × Str) : Prop := ∃ ps : Array Value, H p.1 = some (.lam ps) ∧ TriplesOk ps.toList ∧ ∀ pos cv, codeAmong pos ps.toList = some cv → IsCd H p.2 cv
theorem Lm.keep {H H' : Hp} {p : Addr × Str} (h : Lm H p) (k1 : ∀ ps, H p.1 = some (.lam ps) → H' p.1 = some (.lam ps)) (k2 : ∀ c oc u, H c = some (.frz oc u) → H' c = some (.frz oc u)) : Lm H' p := by
  obtain ⟨ps, e, t, c⟩ := h
  refine ⟨ps, k1 _ e, t, fun pos cv q => ?_⟩
  obtain ⟨a, oc, u, vs, tk, e1, e2, r⟩ := c pos cv q
  exact ⟨a, oc, u, vs, tk, e1, k2 _ _ _ e2, r⟩

structure Bz where
  P : Program
  w : World
  K : PySem.W.Frag
  tb : Tbs
  hid : List Addr

def Fz (β : Bz) (M : Mh) (a : Addr) : Prop := M a = none ∧ a ∉ β.hid

def Kl (K : PySem.W.Frag) (a : Addr) (ns : List Int) : Prop := ∃ (o : Obj) (its : Array Value) (n : Nat), K.lookup a = some o ∧ o.cls = .type "list" ∧ o.dict = none ∧ o.data = .seq its n ∧ its.size ≤ sizeLine ∧ Vals (ns.map V.int) its.toList
inductive Rz (β : Bz) (M : Mh) (H : Hp) : V → Dv → Prop where
  | int (i : Int) : Rz β M H (.int i) (.int i)
  | bl (b : Bool) : Rz β M H (.bl b) (.bl b)
  | non : Rz β M H .non .non
  | str (z : Str) : Rz β M H (.str z) (.str z)
  | tup {a : Addr} {vs : List V} {ds : List Dv} (m : Fz β M a) (e : H a = some (.tup vs)) (hl : vs.length = ds.length) (h : ∀ (i : Nat) (v : V) (d : Dv), vs[i]? = some v → ds[i]? = some d → Rz β M H v d) : Rz β M H (.ref a) (.tup ds)
  | lst {a : Addr} {vs : List V} {ds : List Dv} (m : Fz β M a) (e : H a = some (.lst vs)) (hl : vs.length = ds.length) (h : ∀ (i : Nat) (v : V) (d : Dv), vs[i]? = some v → ds[i]? = some d → Rz β M H v d) : Rz β M H (.ref a) (.lst ds)
  | set {a : Addr} {ns : List Int} (m : Fz β M a) (e : H a = some (setO β.P β.w a ns)) : Rz β M H (.ref a) (.set ns)
  | ptr {a : Addr} (m : (M a).isSome = true) : Rz β M H (.ref a) (.ptr a)
  | exc {a C : Addr} (m : Fz β M a) (e : H a = some (excO C a)) : Rz β M H (.ref a) (.exc C)
  | scr {a : Addr} {o : Obj} {ns : List Int} (m : Fz β M a) (e : H a = some (.frz o (.lst (ns.map V.int)))) : Rz β M H (.ref a) (.scr ns)
  | scrL {a : Addr} {ns : List Int} (m : Fz β M a) (e : H a = some (.lst (ns.map V.int))) : Rz β M H (.ref a) (.scr ns)
  | scrK {a : Addr} {ns : List Int} (e : Kl β.K a ns) : Rz β M H (.ref a) (.scr ns)
  | raw (v : V) : Rz β M H v (.raw v)
  | dk {a : Addr} {ks : List Key} {vs : List V} {ds : List Dv} (m : Fz β M a) (e : Rd H a (.dK (ks.zip vs))) (hk : ks.length = vs.length) (hl : vs.length = ds.length) (h : ∀ (i : Nat) (v : V) (d : Dv), vs[i]? = some v → ds[i]? = some d → Rz β M H v d) : Rz β M H (.ref a) (.dk ks ds)
  | dt {a : Addr} {ks : List (List Key)} {vs : List V} {ds : List Dv} (m : Fz β M a) (e : Rd H a (.dT (ks.zip vs))) (hk : ks.length = vs.length) (hl : vs.length = ds.length) (h : ∀ (i : Nat) (v : V) (d : Dv), vs[i]? = some v → ds[i]? = some d → Rz β M H v d) : Rz β M H (.ref a) (.dt ks ds)
  | clo {f c : Addr} {o oc : Obj} {u uc : HO} {vs : List V} {ds : List Dv} (m : Fz β M f) (e : H f = some (.frz o u)) (m2 : Fz β M c) (e2 : H c = some (.frz oc uc)) (hl : vs.length = ds.length) (h : ∀ (i : Nat) (v : V) (d : Dv), vs[i]? = some v → ds[i]? = some d → Rz β M H v d) : Rz β M H (.ref f) (.clo f o c oc vs ds)

structure Rzs (β : Bz) (M : Mh) (H : Hp) (vs : List V) (ds : List Dv) : Prop where
  len : vs.length = ds.length
  at' : ∀ (i : Nat) (v : V) (d : Dv), vs[i]? = some v → ds[i]? = some d → Rz β M H v d
def Mzo (β : Bz) (M : Mh) (H : Hp) (a : Addr) : Mo → Prop
  | .lst ds => ∃ vs, H a = some (.lst vs) ∧ Rzs β M H vs ds
  | .bag => BagAt H a
  | .dk ks ds => ∃ vs, H a = some (.dK (ks.zip vs)) ∧ ks.length = vs.length ∧ Rzs β M H vs ds
  | .dt ks ds => ∃ vs, H a = some (.dT (ks.zip vs)) ∧ ks.length = vs.length ∧ Rzs β M H vs ds

def hidB : HO → Bool
  | .lst _ => true
  | .set _ _ => true
  | .dK _ => true
  | .dT _ => true
  | .ext _ => true
  | .tbl _ => true
  | _ => false
def HidO (H : Hp) (a : Addr) : Prop := ∃ o, H a = some o ∧ hidB o = true
theorem HidO.upd {H : Hp} {a p : Addr} {o : HO} (h : HidO H a) (d : H p = none ∨ hidB o = true) : HidO (upd H p o) a := by
  obtain ⟨u, e, n⟩ := h
  by_cases z : a = p
  · subst z
    rcases d with d | d
    · rw [e] at d; cases d
    · exact ⟨o, upd_same, d⟩
  · exact ⟨u, by rw [upd_ne z]; exact e, n⟩
structure Mz (β : Bz) (M : Mh) (H : Hp) : Prop where
  obj : ∀ a o, M a = some o → Mzo β M H a o
  tabs : TbAll β.tb.g H
  hids : ∀ a ∈ β.hid, HidO H a
  apart : ∀ a o, M a = some o → a ∉ β.hid
  lams : ∀ p ∈ β.tb.l, Lm H p

structure Ey (M : Mh) (H : Hp) (M' : Mh) (H' : Hp) : Prop where
  keep : ∀ b o, M b = none → H b = some o → H' b = some o ∨ ∃ o', Tg o o' ∧ H' b = some o'
  dom : ∀ a, (M a).isSome = true → (M' a).isSome = true
  new : ∀ a o, M a = none → H a = some o → M' a = none
structure Ex (β : Bz) (M : Mh) (H : Hp) (M' : Mh) (H' : Hp) : Prop extends Ey M H M' H' where
  mz : Mz β M' H'
section
variable {β : Bz} {M M1 M2 : Mh} {H H1 H2 : Hp}
theorem Ey.refl : Ey M H M H := ⟨fun _ _ _ h => .inl h, fun _ h => h, fun _ _ h _ => h⟩
theorem Ex.refl (m : Mz β M H) : Ex β M H M H := ⟨.refl, m⟩
theorem Ey.trans (x : Ey M H M1 H1) (y : Ey M1 H1 M2 H2) : Ey M H M2 H2 := by
  refine ⟨fun b o hm h => ?_, fun a h => y.dom a (x.dom a h), fun a o hm h => ?_⟩
  · have hm1 := x.new b o hm h
    rcases x.keep b o hm h with q | ⟨o1, t, q⟩
    · exact y.keep b o hm1 q
    · rcases y.keep b _ hm1 q with q2 | ⟨o2, t2, q2⟩
      · exact .inr ⟨o1, t, q2⟩
      · exact .inr ⟨o2, t.trans t2, q2⟩
  · have hm1 := x.new a o hm h
    rcases x.keep a o hm h with q | ⟨o1, t, q⟩
    · exact y.new a _ hm1 q
    · exact y.new a _ hm1 q
theorem Ex.trans (x : Ex β M H M1 H1) (y : Ex β M1 H1 M2 H2) : Ex β M H M2 H2 := ⟨x.toEy.trans y.toEy, y.mz⟩
theorem Ey.get (x : Ey M H M1 H1) {b : Addr} {o : HO} (m : M b = none) (h : H b = some o) (n : isTab o = false) : H1 b = some o := by
  rcases x.keep b o m h with q | ⟨o', e, _⟩
  · exact q
  · rw [e.tab] at n; cases n
theorem Ey.rd (x : Ey M H M1 H1) {b : Addr} {u : HO} (m : M b = none) (h : Rd H b u) (hu : dicB u = true) : Rd H1 b u := by
  rcases h with h | ⟨o, h⟩
  · rcases x.keep b u m h with q | ⟨o', t, q⟩
    · exact .inl q
    · rcases t with ⟨_, _, rfl, _⟩ | ⟨_, _, rfl, _⟩ | ⟨_, ob, rfl⟩
      · cases hu
      · cases hu
      · exact .inr ⟨ob, q⟩
  · exact .inr ⟨o, x.get m h rfl⟩
theorem Ey.gone (x : Ey M H M1 H1) {b : Addr} (h : H1 b = none) : M b = none → H b = none := fun m => by
  cases e : H b with
  | none => rfl
  | some o =>
    rcases x.keep b o m e with q | ⟨_, _, q⟩ <;> (rw [h] at q; cases q)
theorem Rz.ey (x : Ey M H M1 H1) {v : V} {d : Dv} (h : Rz β M H v d) : Rz β M1 H1 v d := by
  induction h with
  | int i => exact .int i
  | bl b => exact .bl b
  | non => exact .non
  | str z => exact .str z
  | tup m e hl h ih => exact .tup ⟨x.new _ _ m.1 e, m.2⟩ (x.get m.1 e rfl) hl ih
  | lst m e hl h ih => exact .lst ⟨x.new _ _ m.1 e, m.2⟩ (x.get m.1 e rfl) hl ih
  | dk m e hk hl h ih => exact .dk ⟨x.new _ _ m.1 e.there.choose_spec, m.2⟩ (x.rd m.1 e rfl) hk hl ih
  | dt m e hk hl h ih => exact .dt ⟨x.new _ _ m.1 e.there.choose_spec, m.2⟩ (x.rd m.1 e rfl) hk hl ih
  | clo m e m2 e2 hl h ih => exact .clo ⟨x.new _ _ m.1 e, m.2⟩ (x.get m.1 e rfl) ⟨x.new _ _ m2.1 e2, m2.2⟩ (x.get m2.1 e2 rfl) hl ih
  | set m e => exact .set ⟨x.new _ _ m.1 e, m.2⟩ (x.get m.1 e rfl)
  | ptr m => exact .ptr (x.dom _ m)
  | exc m e => exact .exc ⟨x.new _ _ m.1 e, m.2⟩ (x.get m.1 e rfl)
  | scr m e => exact .scr ⟨x.new _ _ m.1 e, m.2⟩ (x.get m.1 e rfl)
  | scrL m e => exact .scrL ⟨x.new _ _ m.1 e, m.2⟩ (x.get m.1 e rfl)
  | scrK e => exact .scrK e
  | raw v => exact .raw v
theorem Rz.ex (x : Ex β M H M1 H1) {v : V} {d : Dv} (h : Rz β M H v d) : Rz β M1 H1 v d := h.ey x.toEy
theorem Rzs.ex (x : Ex β M H M1 H1) {vs : List V} {ds : List Dv} (h : Rzs β M H vs ds) : Rzs β M1 H1 vs ds := ⟨h.len, fun i v d a b => (h.at' i v d a b).ex x⟩
theorem Rzs.nil : Rzs β M H [] [] := ⟨rfl, fun i v d h => by simp at h⟩
theorem Rzs.cons {v : V} {d : Dv} {vs : List V} {ds : List Dv} (h : Rz β M H v d) (t : Rzs β M H vs ds) : Rzs β M H (v :: vs) (d :: ds) := ⟨by simp [t.len], fun i x y a b => by
  cases i with
  | zero => simp at a b; subst a b; exact h
  | succ i => rw [List.getElem?_cons_succ] at a b; exact t.at' i x y a b⟩
theorem Rzs.head {v : V} {d : Dv} {vs : List V} {ds : List Dv} (h : Rzs β M H (v :: vs) (d :: ds)) : Rz β M H v d := h.at' 0 v d rfl rfl
theorem Rzs.tail {v : V} {d : Dv} {vs : List V} {ds : List Dv} (h : Rzs β M H (v :: vs) (d :: ds)) : Rzs β M H vs ds := ⟨by simpa using h.len, fun i x y a b => h.at' (i + 1) x y (by rw [List.getElem?_cons_succ]; exact a) (by rw [List.getElem?_cons_succ]; exact b)⟩
theorem Rzs.append {vs vs' : List V} {ds ds' : List Dv} (h : Rzs β M H vs ds) (t : Rzs β M H vs' ds') : Rzs β M H (vs ++ vs') (ds ++ ds') := ⟨by simp [h.len, t.len], fun i x y a b => by
  rw [List.getElem?_append] at a b
  rw [h.len] at a
  split at b
  · rename_i z
    rw [if_pos z] at a
    exact h.at' i x y a b
  · rename_i z
    rw [if_neg z] at a
    exact t.at' _ x y a b⟩
theorem Rzs.snoc {v : V} {d : Dv} {vs : List V} {ds : List Dv} (t : Rzs β M H vs ds) (h : Rz β M H v d) : Rzs β M H (vs ++ [v]) (ds ++ [d]) := t.append (.cons h .nil)
theorem Rzs.get {vs : List V} {ds : List Dv} (h : Rzs β M H vs ds) {i : Nat} {d : Dv} (e : ds[i]? = some d) : ∃ v, vs[i]? = some v ∧ Rz β M H v d := by
  have hi := (List.getElem?_eq_some_iff.mp e).1
  have hi' : i < vs.length := by rw [h.len]; exact hi
  exact ⟨vs[i], List.getElem?_eq_getElem hi', h.at' i _ _ (List.getElem?_eq_getElem hi') e⟩
theorem Rzs.get' {vs : List V} {ds : List Dv} (h : Rzs β M H vs ds) {i : Nat} {v : V} (e : vs[i]? = some v) : ∃ d, ds[i]? = some d ∧ Rz β M H v d := by
  have hi := (List.getElem?_eq_some_iff.mp e).1
  have hi' : i < ds.length := by rw [← h.len]; exact hi
  exact ⟨ds[i], List.getElem?_eq_getElem hi', h.at' i _ _ e (List.getElem?_eq_getElem hi')⟩
theorem Rzs.take {vs : List V} {ds : List Dv} (h : Rzs β M H vs ds) (n : Nat) : Rzs β M H (vs.take n) (ds.take n) := ⟨by simp [h.len], fun i x y a b => by
  rw [List.getElem?_take] at a b
  split at a
  · rename_i z; rw [if_pos z] at b; exact h.at' i x y a b
  · cases a⟩
theorem Rzs.drop {vs : List V} {ds : List Dv} (h : Rzs β M H vs ds) (n : Nat) : Rzs β M H (vs.drop n) (ds.drop n) := ⟨by simp [h.len], fun i x y a b => by
  rw [List.getElem?_drop] at a b
  exact h.at' _ x y a b⟩
theorem Rzs.set {vs : List V} {ds : List Dv} (h : Rzs β M H vs ds) (n : Nat) {v : V} {d : Dv} (r : Rz β M H v d) : Rzs β M H (vs.set n v) (ds.set n d) := ⟨by simp [h.len], fun i x y a b => by
  rw [List.getElem?_set] at a b
  rw [h.len] at a
  split at a
  · rename_i z
    rw [if_pos z] at b
    split at a
    · rename_i z2; rw [if_pos z2] at b; cases a; cases b; exact r
    · cases a
  · rename_i z; rw [if_neg z] at b; exact h.at' i x y a b⟩
theorem Rzs.mem {vs : List V} {ds : List Dv} (h : Rzs β M H vs ds) {v : V} (hv : v ∈ vs) : ∃ d ∈ ds, Rz β M H v d := by
  obtain ⟨i, e⟩ := List.mem_iff_getElem?.mp hv
  obtain ⟨d, q, r⟩ := h.get' e
  exact ⟨d, List.mem_of_getElem? q, r⟩
theorem rz_tup {a : Addr} {vs : List V} {ds : List Dv} (m : Fz β M a) (e : H a = some (.tup vs)) (h : Rzs β M H vs ds) : Rz β M H (.ref a) (.tup ds) := .tup m e h.len h.at'
theorem rz_lst {a : Addr} {vs : List V} {ds : List Dv} (m : Fz β M a) (e : H a = some (.lst vs)) (h : Rzs β M H vs ds) : Rz β M H (.ref a) (.lst ds) := .lst m e h.len h.at'
theorem rz_tup_of {v : V} {ds : List Dv} (h : Rz β M H v (.tup ds)) : ∃ a vs, v = .ref a ∧ Fz β M a ∧ H a = some (.tup vs) ∧ Rzs β M H vs ds := by
  cases h with
  | tup m e hl h => exact ⟨_, _, rfl, m, e, hl, h⟩
theorem rz_lst_of {v : V} {ds : List Dv} (h : Rz β M H v (.lst ds)) : ∃ a vs, v = .ref a ∧ Fz β M a ∧ H a = some (.lst vs) ∧ Rzs β M H vs ds := by
  cases h with
  | lst m e hl h => exact ⟨_, _, rfl, m, e, hl, h⟩
theorem rz_int_of {v : V} {i : Int} (h : Rz β M H v (.int i)) : v = .int i := by cases h; rfl
theorem rz_bl_of {v : V} {b : Bool} (h : Rz β M H v (.bl b)) : v = .bl b := by cases h; rfl
theorem rz_str_of {v : V} {z : Str} (h : Rz β M H v (.str z)) : v = .str z := by cases h; rfl
theorem rz_raw_of {v u : V} (h : Rz β M H v (.raw u)) : v = u := by cases h; rfl
theorem rz_ptr_of {v : V} {a : Addr} (h : Rz β M H v (.ptr a)) : v = .ref a ∧ (M a).isSome = true := by cases h with | ptr m => exact ⟨rfl, m⟩
theorem rz_scr_of {v : V} {ns : List Int} (h : Rz β M H v (.scr ns)) : ∃ a, v = .ref a ∧ SqL β.K H a (ns.map V.int) := by
  cases h with
  | scr m e => exact ⟨_, rfl, .inl (.inr ⟨_, e⟩)⟩
  | scrL m e => exact ⟨_, rfl, .inl (.inl e)⟩
  | scrK e => exact ⟨_, rfl, .inr e⟩

def ownO : HO → Bool
  | .lst _ => true
  | .dK _ => true
  | .dT _ => true
  | _ => false
theorem Mz.own (m : Mz β M H) {a : Addr} {o : Mo} (e : M a = some o) : ∃ u, H a = some u ∧ ownO u = true := by
  have q := m.obj a o e
  cases o with
  | lst ds => obtain ⟨vs, q, _⟩ := q; exact ⟨_, q, rfl⟩
  | dk ks ds => obtain ⟨vs, q, _⟩ := q; exact ⟨_, q, rfl⟩
  | dt ks ds => obtain ⟨vs, q, _⟩ := q; exact ⟨_, q, rfl⟩
  | bag => obtain ⟨_, _, q, _⟩ := q; exact ⟨_, q, rfl⟩
theorem Mz.notown (m : Mz β M H) {a : Addr} {u : HO} (h : H a = some u) (n : ownO u = false) : M a = none := by
  cases e : M a with
  | none => rfl
  | some o => obtain ⟨u', q, w⟩ := m.own e; rw [h] at q; cases q; rw [n] at w; cases w
theorem Mz.notab (m : Mz β M H) {p : Addr} (hp : p ∈ β.tb) : M p = none := let ⟨_, h, _⟩ := m.tabs p hp; m.notown h rfl
theorem Mz.notlam (m : Mz β M H) {p : Addr × Str} (hp : p ∈ β.tb.l) : M p.1 = none := let ⟨_, h, _⟩ := m.lams p hp; m.notown h rfl
theorem Mz.free (m : Mz β M H) {a : Addr} (h : H a = none) : M a = none := by
  cases e : M a with
  | none => rfl
  | some o => obtain ⟨xs, q, _⟩ := m.own e; rw [h] at q; cases q
theorem Mz.fz (m : Mz β M H) {a : Addr} (h : H a = none) : Fz β M a := ⟨m.free h, fun z => by
  obtain ⟨o, e, _⟩ := m.hids a z
  rw [h] at e
  cases e⟩
theorem Ey.some (x : Ey M H M1 H1) {a : Addr} (m : M a = none) (h : ∃ o, H a = Option.some o) : ∃ o, H1 a = Option.some o := by
  obtain ⟨o, h⟩ := h
  rcases x.keep a o m h with q | ⟨_, _, q⟩
  · exact ⟨_, q⟩
  · exact ⟨_, q⟩
theorem upd_some {p a : Addr} {o : HO} (h : ∃ u, H a = Option.some u) : ∃ u, upd H p o a = Option.some u := by
  unfold upd
  split
  · exact ⟨_, rfl⟩
  · exact h

theorem Ex.lay (m : Mz β M H) {p : Addr} (h : H p = none) (o : HO) : Ex β M H M (upd H p o) := by
  have pre : ∀ b u, H b = some u → upd H p o b = some u := fun b u q => by rw [upd_ne (ne_of_none q h)]; exact q
  have rz : ∀ {v : V} {d : Dv}, Rz β M H v d → Rz β M (upd H p o) v d := fun r => by
    induction r with
    | int i => exact .int i
    | bl b => exact .bl b
    | non => exact .non
    | str z => exact .str z
    | tup m e hl h ih => exact .tup m (pre _ _ e) hl ih
    | lst m e hl h ih => exact .lst m (pre _ _ e) hl ih
    | dk m e hk hl h ih => exact .dk m (e.map fun _ h => pre _ _ h) hk hl ih
    | dt m e hk hl h ih => exact .dt m (e.map fun _ h => pre _ _ h) hk hl ih
    | clo m e m2 e2 hl h ih => exact .clo m (pre _ _ e) m2 (pre _ _ e2) hl ih
    | set m e => exact .set m (pre _ _ e)
    | ptr m => exact .ptr m
    | exc m e => exact .exc m (pre _ _ e)
    | scr m e => exact .scr m (pre _ _ e)
    | scrL m e => exact .scrL m (pre _ _ e)
    | scrK e => exact .scrK e
    | raw v => exact .raw v
  refine ⟨⟨fun b u _ q => .inl (pre b u q), fun _ h => h, fun _ _ h _ => h⟩, fun a u e => ?_, fun q hq => ?_, fun a ha => (m.hids a ha).upd (.inl h), m.apart, fun q hq => (m.lams q hq).keep (fun _ e => pre _ _ e) fun _ _ _ e => pre _ _ e⟩
  · have z := m.obj a u e
    cases u with
    | lst ds => obtain ⟨vs, z, l, r⟩ := z; exact ⟨vs, pre _ _ z, l, fun i v d a b => rz (r i v d a b)⟩
    | dk ks ds => obtain ⟨vs, z, hk, l, r⟩ := z; exact ⟨vs, pre _ _ z, hk, l, fun i v d a b => rz (r i v d a b)⟩
    | dt ks ds => obtain ⟨vs, z, hk, l, r⟩ := z; exact ⟨vs, pre _ _ z, hk, l, fun i v d a b => rz (r i v d a b)⟩
    | bag => obtain ⟨c, n, z, r⟩ := z; exact ⟨c, n, pre _ _ z, r⟩
  · obtain ⟨ps, e, t⟩ := m.tabs q hq
    exact ⟨ps, pre _ _ e, t⟩

theorem Ex.grow (m : Mz β M H) {p : Addr} (hp : p ∈ β.tb) {ps : Array Value} (t : TriplesOk ps.toList) : Ex β M H M (upd H p (.tbl ps)) := by
  obtain ⟨ps0, hp0, t0⟩ := m.tabs p hp
  have pre : ∀ b u, H b = some u → notTbl u = true → upd H p (.tbl ps) b = some u := fun b u q n => by
    have : b ≠ p := fun z => by subst z; rw [hp0] at q; cases q; cases n
    rw [upd_ne this]; exact q
  have rz : ∀ {v : V} {d : Dv}, Rz β M H v d → Rz β M (upd H p (.tbl ps)) v d := fun r => by
    induction r with
    | int i => exact .int i
    | bl b => exact .bl b
    | non => exact .non
    | str z => exact .str z
    | tup m e hl h ih => exact .tup m (pre _ _ e rfl) hl ih
    | lst m e hl h ih => exact .lst m (pre _ _ e rfl) hl ih
    | dk m e hk hl h ih => exact .dk m (e.mapB rfl fun x hx h => pre _ _ h hx) hk hl ih
    | dt m e hk hl h ih => exact .dt m (e.mapB rfl fun x hx h => pre _ _ h hx) hk hl ih
    | clo m e m2 e2 hl h ih => exact .clo m (pre _ _ e rfl) m2 (pre _ _ e2 rfl) hl ih
    | set m e => exact .set m (pre _ _ e rfl)
    | ptr m => exact .ptr m
    | exc m e => exact .exc m (pre _ _ e rfl)
    | scr m e => exact .scr m (pre _ _ e rfl)
    | scrL m e => exact .scrL m (pre _ _ e rfl)
    | scrK e => exact .scrK e
    | raw v => exact .raw v
  refine ⟨⟨fun b u _ q => ?_, fun _ h => h, fun _ _ h _ => h⟩, fun a u e => ?_, fun q hq => ?_, fun a ha => (m.hids a ha).upd (.inr rfl), m.apart, fun q hq => (m.lams q hq).keep (fun _ e => pre _ _ e rfl) fun _ _ _ e => pre _ _ e rfl⟩
  · by_cases e : b = p
    · subst e
      rw [hp0] at q
      cases q
      exact .inr ⟨_, .inl ⟨ps0, ps, rfl, rfl, t⟩, upd_same⟩
    · exact .inl (by rw [upd_ne e]; exact q)
  · have z := m.obj a u e
    cases u with
    | lst ds => obtain ⟨vs, z, l, r⟩ := z; exact ⟨vs, pre _ _ z rfl, l, fun i v d a b => rz (r i v d a b)⟩
    | dk ks ds => obtain ⟨vs, z, hk, l, r⟩ := z; exact ⟨vs, pre _ _ z rfl, hk, l, fun i v d a b => rz (r i v d a b)⟩
    | dt ks ds => obtain ⟨vs, z, hk, l, r⟩ := z; exact ⟨vs, pre _ _ z rfl, hk, l, fun i v d a b => rz (r i v d a b)⟩
    | bag => obtain ⟨c, n, z, r⟩ := z; exact ⟨c, n, pre _ _ z rfl, r⟩
  · by_cases e : q = p
    · subst e; exact ⟨ps, upd_same, t⟩
    · obtain ⟨p2, e2, t2⟩ := m.tabs q hq
      exact ⟨p2, by rw [upd_ne e]; exact e2, t2⟩
def updM (M : Mh) (a : Addr) (o : Mo) : Mh := fun b => if b = a then Option.some o else M b
theorem updM_same {a : Addr} {o : Mo} : updM M a o a = Option.some o := by unfold updM; rw [if_pos rfl]
theorem updM_ne {a b : Addr} {o : Mo} (h : b ≠ a) : updM M a o b = M b := by unfold updM; rw [if_neg h]
theorem updM_updM {a : Addr} {o u : Mo} : updM (updM M a o) a u = updM M a u := by funext b; unfold updM; split <;> rfl

theorem rz_upd {p : Addr} {o : Mo} {u : HO} (hp : (M p).isSome = true ∨ H p = none) {v : V} {d : Dv} (h : Rz β M H v d) : Rz β (updM M p o) (upd H p u) v d := by
  have ne : ∀ a x, M a = none → H a = Option.some x → a ≠ p := fun a x m e z => by
    subst z
    rcases hp with q | q
    · rw [m] at q; cases q
    · rw [q] at e; cases e
  induction h with
  | int i => exact .int i
  | bl b => exact .bl b
  | non => exact .non
  | str z => exact .str z
  | tup m e hl h ih => have n := ne _ _ m.1 e; exact .tup ⟨by rw [updM_ne n]; exact m.1, m.2⟩ (by rw [upd_ne n]; exact e) hl ih
  | lst m e hl h ih => have n := ne _ _ m.1 e; exact .lst ⟨by rw [updM_ne n]; exact m.1, m.2⟩ (by rw [upd_ne n]; exact e) hl ih
  | dk m e hk hl h ih => have n := ne _ _ m.1 e.there.choose_spec; exact .dk ⟨by rw [updM_ne n]; exact m.1, m.2⟩ (e.map fun _ h => by rw [upd_ne n]; exact h) hk hl ih
  | dt m e hk hl h ih => have n := ne _ _ m.1 e.there.choose_spec; exact .dt ⟨by rw [updM_ne n]; exact m.1, m.2⟩ (e.map fun _ h => by rw [upd_ne n]; exact h) hk hl ih
  | clo m e m2 e2 hl h ih => have n := ne _ _ m.1 e; have n2 := ne _ _ m2.1 e2; exact .clo ⟨by rw [updM_ne n]; exact m.1, m.2⟩ (by rw [upd_ne n]; exact e) ⟨by rw [updM_ne n2]; exact m2.1, m2.2⟩ (by rw [upd_ne n2]; exact e2) hl ih
  | set m e => have n := ne _ _ m.1 e; exact .set ⟨by rw [updM_ne n]; exact m.1, m.2⟩ (by rw [upd_ne n]; exact e)
  | ptr m =>
    refine .ptr ?_
    unfold updM
    split
    · rfl
    · exact m
  | exc m e => have n := ne _ _ m.1 e; exact .exc ⟨by rw [updM_ne n]; exact m.1, m.2⟩ (by rw [upd_ne n]; exact e)
  | scr m e => have n := ne _ _ m.1 e; exact .scr ⟨by rw [updM_ne n]; exact m.1, m.2⟩ (by rw [upd_ne n]; exact e)
  | scrL m e => have n := ne _ _ m.1 e; exact .scrL ⟨by rw [updM_ne n]; exact m.1, m.2⟩ (by rw [upd_ne n]; exact e)
  | scrK e => exact .scrK e
  | raw v => exact .raw v
theorem Mzo.upd {p : Addr} {o' : Mo} {u : HO} (hp : (M p).isSome = true ∨ H p = none) {a : Addr} {o : Mo} (ha : a ≠ p) (z : Mzo β M H a o) : Mzo β (updM M p o') (L2.upd H p u) a o := by
  cases o with
  | lst ds => obtain ⟨vs, z, l, r⟩ := z; exact ⟨vs, by rw [upd_ne ha]; exact z, l, fun i v d a b => rz_upd hp (r i v d a b)⟩
  | dk ks ds => obtain ⟨vs, z, hk, l, r⟩ := z; exact ⟨vs, by rw [upd_ne ha]; exact z, hk, l, fun i v d a b => rz_upd hp (r i v d a b)⟩
  | dt ks ds => obtain ⟨vs, z, hk, l, r⟩ := z; exact ⟨vs, by rw [upd_ne ha]; exact z, hk, l, fun i v d a b => rz_upd hp (r i v d a b)⟩
  | bag => obtain ⟨c, n, z, r⟩ := z; exact ⟨c, n, by rw [upd_ne ha]; exact z, r⟩
theorem Ex.ownO (m : Mz β M H) {p : Addr} {u : HO} {o' : Mo} (hp : (M p).isSome = true ∨ H p = none) (hu : hidB u = true) (r : Mzo β (updM M p o') (upd H p u) p o') : Ex β M H (updM M p o') (upd H p u) := by
  have ne : ∀ a x, M a = none → H a = Option.some x → a ≠ p := fun a x m e z => by
    subst z
    rcases hp with q | q
    · rw [m] at q; cases q
    · rw [q] at e; cases e
  refine ⟨⟨fun b u hm q => .inl ?_, fun a h => ?_, fun a o hm h => ?_⟩, fun a o e => ?_, fun q hq => ?_, fun a ha => (m.hids a ha).upd (.inr hu), fun a o e z => ?_, fun q hq => ?_⟩
  · rw [upd_ne (ne b _ hm q)]; exact q
  · unfold updM
    split
    · rfl
    · exact h
  · rw [updM_ne (ne a _ hm h)]; exact hm
  · by_cases ha : a = p
    · subst ha
      rw [updM_same] at e
      cases e
      exact r
    · rw [updM_ne ha] at e
      exact (m.obj a o e).upd hp ha
  · obtain ⟨ps, e, t⟩ := m.tabs q hq
    exact ⟨ps, by rw [upd_ne (ne q _ (m.notab hq) e)]; exact e, t⟩
  · by_cases ha : a = p
    · subst ha
      rcases hp with h | h
      · cases q : M a with
        | none => rw [q] at h; cases h
        | some u => exact m.apart a u q z
      · obtain ⟨u, hu, _⟩ := m.hids a z
        rw [h] at hu
        cases hu
    · rw [updM_ne ha] at e
      exact m.apart a o e z
  · exact (m.lams q hq).keep (fun _ e => by rw [upd_ne (ne q.1 _ (m.notlam hq) e)]; exact e) fun c _ _ e => by rw [upd_ne (ne c _ (m.notown e rfl) e)]; exact e
theorem Ex.own (m : Mz β M H) {p : Addr} {vs : List V} {ds : List Dv} (hp : (M p).isSome = true ∨ H p = none) (r : Rzs β M H vs ds) : Ex β M H (updM M p (.lst ds)) (upd H p (.lst vs)) :=
  Ex.ownO m hp rfl ⟨vs, upd_same, r.len, fun i v d a b => rz_upd hp (r.at' i v d a b)⟩
theorem Ex.ownK (m : Mz β M H) {p : Addr} {ks : List Key} {vs : List V} {ds : List Dv} (hp : (M p).isSome = true ∨ H p = none) (hk : ks.length = vs.length) (r : Rzs β M H vs ds) : Ex β M H (updM M p (.dk ks ds)) (upd H p (.dK (ks.zip vs))) :=
  Ex.ownO m hp rfl ⟨vs, upd_same, hk, r.len, fun i v d a b => rz_upd hp (r.at' i v d a b)⟩
theorem Ex.ownT (m : Mz β M H) {p : Addr} {ks : List (List Key)} {vs : List V} {ds : List Dv} (hp : (M p).isSome = true ∨ H p = none) (hk : ks.length = vs.length) (r : Rzs β M H vs ds) : Ex β M H (updM M p (.dt ks ds)) (upd H p (.dT (ks.zip vs))) :=
  Ex.ownO m hp rfl ⟨vs, upd_same, hk, r.len, fun i v d a b => rz_upd hp (r.at' i v d a b)⟩

theorem Ex.of_keep (m : Mz β M H) (k : Keep H H1) : Ex β M H M H1 := by
  have rz : ∀ {v : V} {d : Dv}, Rz β M H v d → Rz β M H1 v d := fun r => by
    induction r with
    | int i => exact .int i
    | bl b => exact .bl b
    | non => exact .non
    | str z => exact .str z
    | tup m e hl h ih => exact .tup m (k.tup e) hl ih
    | lst m e hl h ih => exact .lst m (k.lst e) hl ih
    | dk m e hk hl h ih => exact .dk m (e.mapB rfl fun x hx h => k.get h (by intro ps z; subst z; cases hx)) hk hl ih
    | dt m e hk hl h ih => exact .dt m (e.mapB rfl fun x hx h => k.get h (by intro ps z; subst z; cases hx)) hk hl ih
    | clo m e m2 e2 hl h ih => exact .clo m (k.get e (by intro ps z; cases z)) m2 (k.get e2 (by intro ps z; cases z)) hl ih
    | set m e => exact .set m (k.get e (by intro ps z; cases z))
    | ptr m => exact .ptr m
    | exc m e => exact .exc m (k.get e (by intro ps z; cases z))
    | scr m e => exact .scr m (k.get e (by intro ps z; cases z))
    | scrL m e => exact .scrL m (k.get e (by intro ps z; cases z))
    | scrK e => exact .scrK e
    | raw v => exact .raw v
  refine ⟨⟨fun b o _ h => (k b o h).imp (fun q => q) (fun ⟨ps, ps', e, q, t⟩ => ⟨_, .inl ⟨ps, ps', e, rfl, t⟩, q⟩), fun _ h => h, fun _ _ h _ => h⟩, fun a u e => ?_, m.tabs.keep k, fun a ha => by
    obtain ⟨o, e, n⟩ := m.hids a ha
    rcases k a o e with q | ⟨_, _, _, q, _⟩
    · exact ⟨_, q, n⟩
    · exact ⟨_, q, rfl⟩, m.apart, fun q hq => (m.lams q hq).keep (fun _ e => k.get e (by intro ps z; cases z)) fun _ _ _ e => k.get e (by intro ps z; cases z)⟩
  have z := m.obj a u e
  cases u with
  | lst ds => obtain ⟨vs, z, l, r⟩ := z; exact ⟨vs, k.lst z, l, fun i v d a b => rz (r i v d a b)⟩
  | dk ks ds => obtain ⟨vs, z, hk, l, r⟩ := z; exact ⟨vs, k.get z (by intro ps z; cases z), hk, l, fun i v d a b => rz (r i v d a b)⟩
  | dt ks ds => obtain ⟨vs, z, hk, l, r⟩ := z; exact ⟨vs, k.get z (by intro ps z; cases z), hk, l, fun i v d a b => rz (r i v d a b)⟩
  | bag => exact BagAt.keep k z

theorem Ex.of_but (m : Mz β M H) {b : Addr} (hb : M b = Option.some .bag) (k : KeepBut b H H1) (hB : BagAt H1 b) : Ex β M H M H1 := by
  have ne : ∀ a, M a = none → a ≠ b := fun a q z => by subst z; rw [hb] at q; cases q
  have rz : ∀ {v : V} {d : Dv}, Rz β M H v d → Rz β M H1 v d := fun r => by
    induction r with
    | int i => exact .int i
    | bl b => exact .bl b
    | non => exact .non
    | str z => exact .str z
    | tup m e hl h ih => exact .tup m (k.tup (ne _ m.1) e) hl ih
    | lst m e hl h ih => exact .lst m (k.lst (ne _ m.1) e) hl ih
    | dk m e hk hl h ih => exact .dk m (e.mapB rfl fun x hx h => k.get (ne _ m.1) h (by intro ps z; subst z; cases hx)) hk hl ih
    | dt m e hk hl h ih => exact .dt m (e.mapB rfl fun x hx h => k.get (ne _ m.1) h (by intro ps z; subst z; cases hx)) hk hl ih
    | clo m e m2 e2 hl h ih => exact .clo m (k.get (ne _ m.1) e (by intro ps z; cases z)) m2 (k.get (ne _ m2.1) e2 (by intro ps z; cases z)) hl ih
    | set m e => exact .set m (k.get (ne _ m.1) e (by intro ps z; cases z))
    | ptr m => exact .ptr m
    | exc m e => exact .exc m (k.get (ne _ m.1) e (by intro ps z; cases z))
    | scr m e => exact .scr m (k.get (ne _ m.1) e (by intro ps z; cases z))
    | scrL m e => exact .scrL m (k.get (ne _ m.1) e (by intro ps z; cases z))
    | scrK e => exact .scrK e
    | raw v => exact .raw v
  refine ⟨⟨fun c o hm h => (k c o (ne c hm) h).imp (fun q => q) (fun ⟨ps, ps', e, q, t⟩ => ⟨_, .inl ⟨ps, ps', e, rfl, t⟩, q⟩), fun _ h => h, fun _ _ h _ => h⟩, fun a u e => ?_, fun p hp => ?_, fun a ha => ?_, m.apart, fun q hq => (m.lams q hq).keep (fun _ e => k.get (ne _ (m.notlam hq)) e (by intro ps z; cases z)) fun c _ _ e => k.get (ne _ (m.notown e rfl)) e (by intro ps z; cases z)⟩
  · by_cases ha : a = b
    · subst ha
      rw [hb] at e
      cases e
      exact hB
    · have z := m.obj a u e
      cases u with
      | lst ds => obtain ⟨vs, z, l, r⟩ := z; exact ⟨vs, k.lst ha z, l, fun i v d a b => rz (r i v d a b)⟩
      | dk ks ds => obtain ⟨vs, z, hk, l, r⟩ := z; exact ⟨vs, k.get ha z (by intro ps z; cases z), hk, l, fun i v d a b => rz (r i v d a b)⟩
      | dt ks ds => obtain ⟨vs, z, hk, l, r⟩ := z; exact ⟨vs, k.get ha z (by intro ps z; cases z), hk, l, fun i v d a b => rz (r i v d a b)⟩
      | bag =>
        obtain ⟨c, n, z, r⟩ := z
        exact ⟨c, n, k.lst ha z, r⟩
  · obtain ⟨ps, e, t⟩ := m.tabs p hp
    rcases k p _ (ne p (m.notab hp)) e with q | ⟨_, ps', _, q, t'⟩
    · exact ⟨ps, q, t⟩
    · exact ⟨ps', q, t'⟩
  · obtain ⟨o, e, n⟩ := m.hids a ha
    by_cases z : a = b
    · subst z; obtain ⟨_, _, q, _⟩ := hB; exact ⟨_, q, rfl⟩
    · rcases k a o z e with q | ⟨_, _, _, q, _⟩
      · exact ⟨_, q, n⟩
      · exact ⟨_, q, rfl⟩

abbrev Bz.add (β : Bz) (D : Addr) : Bz := { β with hid := D :: β.hid }
theorem Rz.enter {D : Addr} {o : HO} (hD : H D = none) {v : V} {d : Dv} (h : Rz β M H v d) : Rz (β.add D) M (upd H D o) v d := by
  have ne : ∀ a x, Fz β M a → H a = some x → Fz (β.add D) M a := fun a x m e => ⟨m.1, by
    intro z
    rcases List.mem_cons.mp z with z | z
    · subst z; rw [hD] at e; cases e
    · exact m.2 z⟩
  have pre : ∀ a x, H a = some x → upd H D o a = some x := fun a x e => by rw [upd_ne (ne_of_none e hD)]; exact e
  induction h with
  | int i => exact .int i
  | bl b => exact .bl b
  | non => exact .non
  | str z => exact .str z
  | tup m e hl h ih => exact .tup (ne _ _ m e) (pre _ _ e) hl ih
  | lst m e hl h ih => exact .lst (ne _ _ m e) (pre _ _ e) hl ih
  | dk m e hk hl h ih => exact .dk (ne _ _ m e.there.choose_spec) (e.map fun _ h => pre _ _ h) hk hl ih
  | dt m e hk hl h ih => exact .dt (ne _ _ m e.there.choose_spec) (e.map fun _ h => pre _ _ h) hk hl ih
  | clo m e m2 e2 hl h ih => exact .clo (ne _ _ m e) (pre _ _ e) (ne _ _ m2 e2) (pre _ _ e2) hl ih
  | set m e => exact .set (ne _ _ m e) (pre _ _ e)
  | ptr m => exact .ptr m
  | exc m e => exact .exc (ne _ _ m e) (pre _ _ e)
  | scr m e => exact .scr (ne _ _ m e) (pre _ _ e)
  | scrL m e => exact .scrL (ne _ _ m e) (pre _ _ e)
  | scrK e => exact .scrK e
  | raw v => exact .raw v
theorem Rz.sub {β' : Bz} (hP : β'.P = β.P) (hw : β'.w = β.w) (hK : β'.K = β.K) (hs : ∀ a, a ∈ β'.hid → a ∈ β.hid) {v : V} {d : Dv} (h : Rz β M H v d) : Rz β' M H v d := by
  have ne : ∀ a, Fz β M a → Fz β' M a := fun a m => ⟨m.1, fun z => m.2 (hs a z)⟩
  induction h with
  | int i => exact .int i
  | bl b => exact .bl b
  | non => exact .non
  | str z => exact .str z
  | tup m e hl h ih => exact .tup (ne _ m) e hl ih
  | lst m e hl h ih => exact .lst (ne _ m) e hl ih
  | dk m e hk hl h ih => exact .dk (ne _ m) e hk hl ih
  | dt m e hk hl h ih => exact .dt (ne _ m) e hk hl ih
  | clo m e m2 e2 hl h ih => exact .clo (ne _ m) e (ne _ m2) e2 hl ih
  | set m e => exact .set (ne _ m) (by rw [hP, hw]; exact e)
  | ptr m => exact .ptr m
  | exc m e => exact .exc (ne _ m) e
  | scr m e => exact .scr (ne _ m) e
  | scrL m e => exact .scrL (ne _ m) e
  | scrK e => exact .scrK (by rw [hK]; exact e)
  | raw v => exact .raw v
theorem Mz.sub {β' : Bz} (hP : β'.P = β.P) (hw : β'.w = β.w) (hK : β'.K = β.K) (ht : β'.tb = β.tb) (hs : ∀ a, a ∈ β'.hid → a ∈ β.hid) (m : Mz β M H) : Mz β' M H := ⟨fun a o e => by
  have z := m.obj a o e
  cases o with
  | lst ds => obtain ⟨vs, z, l, r⟩ := z; exact ⟨vs, z, l, fun i v d a b => (r i v d a b).sub hP hw hK hs⟩
  | dk ks ds => obtain ⟨vs, z, hk, l, r⟩ := z; exact ⟨vs, z, hk, l, fun i v d a b => (r i v d a b).sub hP hw hK hs⟩
  | dt ks ds => obtain ⟨vs, z, hk, l, r⟩ := z; exact ⟨vs, z, hk, l, fun i v d a b => (r i v d a b).sub hP hw hK hs⟩
  | bag => exact z, by rw [ht]; exact m.tabs, fun a ha => m.hids a (hs a ha), fun a o e z => m.apart a o e (hs a z), by rw [ht]; exact m.lams⟩
theorem Mz.enter {D : Addr} {o : HO} (hD : H D = none) (ho : hidB o = true) (m : Mz β M H) : Mz (β.add D) M (upd H D o) := ⟨fun a u e => by
  have pre : ∀ a x, H a = Option.some x → upd H D o a = Option.some x := fun a x e => by rw [upd_ne (ne_of_none e hD)]; exact e
  have z := m.obj a u e
  cases u with
  | lst ds => obtain ⟨vs, z, l, r⟩ := z; exact ⟨vs, pre _ _ z, l, fun i v d a b => (r i v d a b).enter hD⟩
  | dk ks ds => obtain ⟨vs, z, hk, l, r⟩ := z; exact ⟨vs, pre _ _ z, hk, l, fun i v d a b => (r i v d a b).enter hD⟩
  | dt ks ds => obtain ⟨vs, z, hk, l, r⟩ := z; exact ⟨vs, pre _ _ z, hk, l, fun i v d a b => (r i v d a b).enter hD⟩
  | bag => obtain ⟨c, n, z, r⟩ := z; exact ⟨c, n, pre _ _ z, r⟩, fun p hp => by
  obtain ⟨ps, e, t⟩ := m.tabs p hp
  exact ⟨ps, by rw [upd_ne (ne_of_none e hD)]; exact e, t⟩, fun a ha => by
  rcases List.mem_cons.mp ha with z | z
  · subst z; exact ⟨_, upd_same, ho⟩
  · exact (m.hids a z).upd (.inl hD), fun a o e ha => by
  rcases List.mem_cons.mp ha with z | z
  · subst z; rw [m.free hD] at e; cases e
  · exact m.apart a o e z, fun q hq => (m.lams q hq).keep (fun _ e => by rw [upd_ne (ne_of_none e hD)]; exact e) fun _ _ _ e => by rw [upd_ne (ne_of_none e hD)]; exact e⟩
theorem Rz.over {D : Addr} {o : HO} (hD : D ∈ β.hid) {v : V} {d : Dv} (h : Rz β M H v d) : Rz β M (upd H D o) v d := by
  have pre : ∀ a x, Fz β M a → H a = some x → upd H D o a = some x := fun a x m e => by
    have n : a ≠ D := fun z => by subst z; exact m.2 hD
    rw [upd_ne n]; exact e
  induction h with
  | int i => exact .int i
  | bl b => exact .bl b
  | non => exact .non
  | str z => exact .str z
  | tup m e hl h ih => exact .tup m (pre _ _ m e) hl ih
  | lst m e hl h ih => exact .lst m (pre _ _ m e) hl ih
  | dk m e hk hl h ih => exact .dk m (e.map fun _ h => pre _ _ m h) hk hl ih
  | dt m e hk hl h ih => exact .dt m (e.map fun _ h => pre _ _ m h) hk hl ih
  | clo m e m2 e2 hl h ih => exact .clo m (pre _ _ m e) m2 (pre _ _ m2 e2) hl ih
  | set m e => exact .set m (pre _ _ m e)
  | ptr m => exact .ptr m
  | exc m e => exact .exc m (pre _ _ m e)
  | scr m e => exact .scr m (pre _ _ m e)
  | scrL m e => exact .scrL m (pre _ _ m e)
  | scrK e => exact .scrK e
  | raw v => exact .raw v
theorem Mz.over {D : Addr} {o : HO} (hD : D ∈ β.hid) (ho : hidB o = true) (hM : M D = none) (ht : D ∉ β.tb) (m : Mz β M H) : Mz β M (upd H D o) := ⟨fun a u e => by
  have na : a ≠ D := fun z => by subst z; rw [hM] at e; cases e
  have z := m.obj a u e
  cases u with
  | lst ds => obtain ⟨vs, z, l, r⟩ := z; exact ⟨vs, by rw [upd_ne na]; exact z, l, fun i v d a b => (r i v d a b).over hD⟩
  | dk ks ds => obtain ⟨vs, z, hk, l, r⟩ := z; exact ⟨vs, by rw [upd_ne na]; exact z, hk, l, fun i v d a b => (r i v d a b).over hD⟩
  | dt ks ds => obtain ⟨vs, z, hk, l, r⟩ := z; exact ⟨vs, by rw [upd_ne na]; exact z, hk, l, fun i v d a b => (r i v d a b).over hD⟩
  | bag => obtain ⟨c, n, z, r⟩ := z; exact ⟨c, n, by rw [upd_ne na]; exact z, r⟩, fun p hp => by
  obtain ⟨ps, e, t⟩ := m.tabs p hp
  have n : p ≠ D := fun z => by subst z; exact ht hp
  exact ⟨ps, by rw [upd_ne n]; exact e, t⟩, fun a ha => (m.hids a ha).upd (.inr ho), m.apart, fun q hq => by
  obtain ⟨o', e', n⟩ := m.hids D hD
  exact (m.lams q hq).keep (fun _ e => by rw [upd_ne (fun z => by subst z; rw [e'] at e; cases e; cases n)]; exact e) fun c _ _ e => by rw [upd_ne (fun z => by subst z; rw [e'] at e; cases e; cases n)]; exact e⟩
theorem Ey.over {D : Addr} {o : HO} (x : Ey M H M1 H1) (hD : H D = none) : Ey M H M1 (upd H1 D o) := ⟨fun b u m h => by
  have nb : b ≠ D := ne_of_none h hD
  rw [upd_ne nb]
  exact x.keep b u m h, x.dom, x.new⟩
theorem Mz.ntab {D : Addr} (m : Mz β M H) (hD : H D = none) : D ∉ β.tb := fun z => by
  obtain ⟨_, e, _⟩ := m.tabs D z
  rw [hD] at e
  cases e

structure Bx (β β' : Bz) (H : Hp) : Prop where
  P : β'.P = β.P
  w : β'.w = β.w
  K : β'.K = β.K
  tb : β'.tb = β.tb
  old : ∀ a, a ∈ β.hid → a ∈ β'.hid
  new : ∀ a, a ∈ β'.hid → a ∈ β.hid ∨ H a = none
theorem Bx.refl : Bx β β H := ⟨rfl, rfl, rfl, rfl, fun _ h => h, fun _ h => .inl h⟩
theorem Bx.add {D : Addr} (hD : H D = none) : Bx β (β.add D) H := ⟨rfl, rfl, rfl, rfl, fun _ h => List.mem_cons_of_mem _ h, fun a h => by
  rcases List.mem_cons.mp h with z | z
  · exact .inr (z ▸ hD)
  · exact .inl z⟩
theorem Rz.bx {β' : Bz} (b : Bx β β' H) {v : V} {d : Dv} (h : Rz β M H v d) : Rz β' M H v d := by
  have ne : ∀ a x, Fz β M a → H a = some x → Fz β' M a := fun a x m e => ⟨m.1, fun z => by
    rcases b.new a z with q | q
    · exact m.2 q
    · rw [q] at e; cases e⟩
  induction h with
  | int i => exact .int i
  | bl b => exact .bl b
  | non => exact .non
  | str z => exact .str z
  | tup m e hl h ih => exact .tup (ne _ _ m e) e hl ih
  | lst m e hl h ih => exact .lst (ne _ _ m e) e hl ih
  | dk m e hk hl h ih => exact .dk (ne _ _ m e.there.choose_spec) e hk hl ih
  | dt m e hk hl h ih => exact .dt (ne _ _ m e.there.choose_spec) e hk hl ih
  | clo m e m2 e2 hl h ih => exact .clo (ne _ _ m e) e (ne _ _ m2 e2) e2 hl ih
  | set m e => exact .set (ne _ _ m e) (by rw [b.P, b.w]; exact e)
  | ptr m => exact .ptr m
  | exc m e => exact .exc (ne _ _ m e) e
  | scr m e => exact .scr (ne _ _ m e) e
  | scrL m e => exact .scrL (ne _ _ m e) e
  | scrK e => exact .scrK (by rw [b.K]; exact e)
  | raw v => exact .raw v
end

inductive Pin (M : Mh) : Dv → Prop where
  | int (i : Int) : Pin M (.int i)
  | bl (b : Bool) : Pin M (.bl b)
  | non : Pin M .non
  | str (z : Str) : Pin M (.str z)
  | tup {ds : List Dv} (h : ∀ d ∈ ds, Pin M d) : Pin M (.tup ds)
  | lst {ds : List Dv} (h : ∀ d ∈ ds, Pin M d) : Pin M (.lst ds)
  | set (ns : List Int) : Pin M (.set ns)
  | ptr {a : Addr} (h : (M a).isSome = true) : Pin M (.ptr a)
  | exc (C : Addr) : Pin M (.exc C)
  | scr (ns : List Int) : Pin M (.scr ns)
  | raw (v : V) : Pin M (.raw v)
  | dk {ks : List Key} {ds : List Dv} (h : ∀ d ∈ ds, Pin M d) : Pin M (.dk ks ds)
  | dt {ks : List (List Key)} {ds : List Dv} (h : ∀ d ∈ ds, Pin M d) : Pin M (.dt ks ds)
  | clo {f c : Addr} {o oc : Obj} {vs : List V} {ds : List Dv} (h : ∀ d ∈ ds, Pin M d) : Pin M (.clo f o c oc vs ds)
theorem Rz.pin {β : Bz} {M : Mh} {H : Hp} {v : V} {d : Dv} (h : Rz β M H v d) : Pin M d := by
  induction h with
  | int i => exact .int i
  | bl b => exact .bl b
  | non => exact .non
  | str z => exact .str z
  | tup m e hl h ih =>
    refine .tup fun d hd => ?_
    obtain ⟨i, hi⟩ := List.mem_iff_getElem?.mp hd
    have h1 := (List.getElem?_eq_some_iff.mp hi).1
    exact ih i _ d (List.getElem?_eq_getElem (by omega)) hi
  | lst m e hl h ih =>
    refine .lst fun d hd => ?_
    obtain ⟨i, hi⟩ := List.mem_iff_getElem?.mp hd
    have h1 := (List.getElem?_eq_some_iff.mp hi).1
    exact ih i _ d (List.getElem?_eq_getElem (by omega)) hi
  | dk m e hk hl h ih =>
    refine .dk fun d hd => ?_
    obtain ⟨i, hi⟩ := List.mem_iff_getElem?.mp hd
    have h1 := (List.getElem?_eq_some_iff.mp hi).1
    exact ih i _ d (List.getElem?_eq_getElem (by omega)) hi
  | dt m e hk hl h ih =>
    refine .dt fun d hd => ?_
    obtain ⟨i, hi⟩ := List.mem_iff_getElem?.mp hd
    have h1 := (List.getElem?_eq_some_iff.mp hi).1
    exact ih i _ d (List.getElem?_eq_getElem (by omega)) hi
  | clo m e m2 e2 hl h ih =>
    refine .clo fun d hd => ?_
    obtain ⟨i, hi⟩ := List.mem_iff_getElem?.mp hd
    have h1 := (List.getElem?_eq_some_iff.mp hi).1
    exact ih i _ d (List.getElem?_eq_getElem (by omega)) hi
  | set m e => exact .set _
  | ptr m => exact .ptr m
  | exc m e => exact .exc _
  | scr m e => exact .scr _
  | scrL m e => exact .scr _
  | scrK e => exact .scr _
  | raw v => exact .raw v

def Mo.items : Mo → List Dv
  | .lst ds => ds
  | .dk _ ds => ds
  | .dt _ ds => ds
  | .bag => []
def Wf (M : Mh) : Prop := ∀ b o, M b = some o → ∀ d ∈ o.items, Pin M d
theorem Mzo.rzs {β : Bz} {M : Mh} {H : Hp} {a : Addr} {o : Mo} (h : Mzo β M H a o) : ∃ vs, Rzs β M H vs o.items := by
  cases o with
  | lst ds => obtain ⟨vs, _, rs⟩ := h; exact ⟨vs, rs⟩
  | dk ks ds => obtain ⟨vs, _, _, rs⟩ := h; exact ⟨vs, rs⟩
  | dt ks ds => obtain ⟨vs, _, _, rs⟩ := h; exact ⟨vs, rs⟩
  | bag => exact ⟨[], .nil⟩
theorem Mz.wf {β : Bz} {M : Mh} {H : Hp} (m : Mz β M H) : Wf M := fun b o e d hd => by
  obtain ⟨vs, rs⟩ := (m.obj b _ e).rzs
  obtain ⟨i, hi⟩ := List.mem_iff_getElem?.mp hd
  obtain ⟨v, _, r⟩ := rs.get hi
  exact r.pin
end L2

set_option Elab.async false
set_option maxRecDepth 100000
set_option maxHeartbeats 4000000
namespace L2
open PySem PySem.Spec PyProof.Rows
abbrev ZEnv := List (Option Dv)
abbrev ZK := Dv → Mh → Prop
abbrev ZTE := ZEnv → Mh → ZK → Prop
abbrev ZTT := ZEnv → Mh → (Bool → Mh → Prop) → Prop
abbrev ZTA := ZEnv → Mh → (List Dv → Mh → Prop) → Prop
structure ZEnds where
  nx : ZEnv → Mh → Prop
  rt : ZK
  bk : ZEnv → Mh → Prop := fun _ _ => False
  ct : ZEnv → Mh → Prop := fun _ _ => False
abbrev ZTS := ZEnds → ZEnv → Mh → Prop
abbrev ZTG := Dv → ZEnv → Mh → (ZEnv → Mh → Prop) → Prop
abbrev ZTGs := List Dv → ZEnv → Mh → (ZEnv → Mh → Prop) → Prop
abbrev ZTI := ZEnv → Mh → (List Dv → Mh → Prop) → Prop

structure Gz extends Bz where
  M0 : Mh
  H0 : Hp
structure Zr (Γ : Gz) (β : Bz) (M : Mh) (ρ : ZEnv) (σ : St) (H : Hp) : Prop where
  eP : β.P = Γ.P
  ew : β.w = Γ.w
  eK : β.K = Γ.K
  et : β.tb = Γ.tb
  sub : ∀ a, a ∈ Γ.hid → a ∈ β.hid
  wf : Wf Γ.M0
  ent : Ey Γ.M0 Γ.H0 M H
  mz : Mz β M H
  len : ρ.length = σ.length
  at' : ∀ (i : Nat) (d : Dv), ρ[i]? = some (some d) → ∃ v, σ[i]? = some (some v) ∧ Rz β M H v d
section
variable {Γ : Gz} {β : Bz} {M M' : Mh} {ρ : ZEnv} {σ : St} {H H' : Hp}
theorem Zr.step (z : Zr Γ β M ρ σ H) (x : Ex β M H M' H') : Zr Γ β M' ρ σ H' := ⟨z.eP, z.ew, z.eK, z.et, z.sub, z.wf, z.ent.trans x.toEy, x.mz, z.len, fun i d e => let ⟨v, h, r⟩ := z.at' i d e; ⟨v, h, r.ex x⟩⟩
theorem Zr.set (z : Zr Γ β M ρ σ H) (i : Nat) {v : V} {d : Dv} (r : Rz β M H v d) : Zr Γ β M (ρ.set i (some d)) (σ.set i (some v)) H := ⟨z.eP, z.ew, z.eK, z.et, z.sub, z.wf, z.ent, z.mz, by simp [z.len], fun j e h => by
  rw [List.getElem?_set] at h ⊢
  rw [z.len] at h
  split at h
  · rename_i q
    rw [if_pos q]
    split at h
    · rename_i q2
      rw [if_pos q2]
      cases h
      exact ⟨v, rfl, r⟩
    · cases h
  · rename_i q
    rw [if_neg q]
    exact z.at' j e h⟩
end

def lE (Γ : Gz) (p : ZTE) : TE := fun σ H Q => ∃ (β : Bz) (ρ : ZEnv) (M : Mh) (Q' : ZK), Zr Γ β M ρ σ H ∧ p ρ M Q' ∧ ∀ d M' v H', Ex β M H M' H' → Rz β M' H' v d → Q' d M' → Q v H'
def lT (Γ : Gz) (p : ZTT) : TT := fun σ H Q => ∃ (β : Bz) (ρ : ZEnv) (M : Mh) (Q' : Bool → Mh → Prop), Zr Γ β M ρ σ H ∧ p ρ M Q' ∧ ∀ b M' H', Ex β M H M' H' → Q' b M' → Q b H'
def lA (Γ : Gz) (p : ZTA) : TA := fun σ H Q => ∃ (β : Bz) (ρ : ZEnv) (M : Mh) (Q' : List Dv → Mh → Prop), Zr Γ β M ρ σ H ∧ p ρ M Q' ∧ ∀ ds M' vs H', Ex β M H M' H' → Rzs β M' H' vs ds → Q' ds M' → Q vs H'

structure Ev (β : Bz) (M : Mh) (H : Hp) (M' : Mh) (H' : Hp) : Prop where
  keep : ∀ b o, M b = none → H b = some o → H' b = some o ∨ ∃ o', Tg o o' ∧ H' b = some o'
  new : ∀ a o, M a = none → H a = some o → M' a = none
  mz : Mz β M' H'
theorem Ex.ev {β : Bz} {M M' : Mh} {H H' : Hp} (x : Ex β M H M' H') : Ev β M H M' H' := ⟨x.keep, x.new, x.mz⟩
theorem Ev.refl {β : Bz} {M : Mh} {H : Hp} (m : Mz β M H) : Ev β M H M H := (Ex.refl m).ev
theorem Ev.trans {β : Bz} {M M1 M2 : Mh} {H H1 H2 : Hp} (x : Ev β M H M1 H1) (y : Ev β M1 H1 M2 H2) : Ev β M H M2 H2 := by
  refine ⟨fun b o hm h => ?_, fun a o hm h => ?_, y.mz⟩
  · have hm1 := x.new b o hm h
    rcases x.keep b o hm h with q | ⟨o1, t, q⟩
    · exact y.keep b o hm1 q
    · rcases y.keep b _ hm1 q with q2 | ⟨o2, t2, q2⟩
      · exact .inr ⟨o1, t, q2⟩
      · exact .inr ⟨o2, t.trans t2, q2⟩
  · have hm1 := x.new a o hm h
    rcases x.keep a o hm h with q | ⟨o1, t, q⟩
    · exact y.new a _ hm1 q
    · exact y.new a _ hm1 q
structure EndR (Γ : Gz) (β : Bz) (M : Mh) (H : Hp) (D' : ZEnds) (D : Ends) : Prop where
  nx : ∀ ρ' M' σ' H', Ev β M H M' H' → Zr Γ β M' ρ' σ' H' → D'.nx ρ' M' → D.nx σ' H'
  rt : ∀ d M' v H', Ev β M H M' H' → Ey Γ.M0 Γ.H0 M' H' → Rz β M' H' v d → D'.rt d M' → D.rt v H'
  bk : ∀ ρ' M' σ' H', Ev β M H M' H' → Zr Γ β M' ρ' σ' H' → D'.bk ρ' M' → D.bk σ' H'
  ct : ∀ ρ' M' σ' H', Ev β M H M' H' → Zr Γ β M' ρ' σ' H' → D'.ct ρ' M' → D.ct σ' H'
theorem EndR.step {Γ : Gz} {β : Bz} {M M1 : Mh} {H H1 : Hp} {D' : ZEnds} {D : Ends} (r : EndR Γ β M H D' D) (x : Ev β M H M1 H1) : EndR Γ β M1 H1 D' D :=
  ⟨fun a b c d y => r.nx a b c d (x.trans y), fun a b c d y => r.rt a b c d (x.trans y), fun a b c d y => r.bk a b c d (x.trans y), fun a b c d y => r.ct a b c d (x.trans y)⟩
def lS (Γ : Gz) (p : ZTS) : TS := fun D σ H => ∃ (β : Bz) (ρ : ZEnv) (M : Mh) (D' : ZEnds), Zr Γ β M ρ σ H ∧ p D' ρ M ∧ EndR Γ β M H D' D
def lG (Γ : Gz) (p : ZTG) : TG := fun x σ H N => ∃ (β : Bz) (d : Dv) (ρ : ZEnv) (M : Mh) (N' : ZEnv → Mh → Prop), Zr Γ β M ρ σ H ∧ Rz β M H x d ∧ p d ρ M N' ∧ ∀ ρ' M' σ' H', Ex β M H M' H' → Zr Γ β M' ρ' σ' H' → N' ρ' M' → N σ' H'
def lGs (Γ : Gz) (p : ZTGs) : TGs := fun xs σ H N => ∃ (β : Bz) (ds : List Dv) (ρ : ZEnv) (M : Mh) (N' : ZEnv → Mh → Prop), Zr Γ β M ρ σ H ∧ Rzs β M H xs ds ∧ p ds ρ M N' ∧ ∀ ρ' M' σ' H', Ex β M H M' H' → Zr Γ β M' ρ' σ' H' → N' ρ' M' → N σ' H'

def ItZ (β : Bz) (J : It) (ds : List Dv) (M : Mh) (H : Hp) : Prop := ∀ β' M' H', Bx β β' H → Ey M H M' H' → Mz β' M' H' → ∀ i, (i < ds.length → J.go i H' ∧ ∀ x H'', J.yld i H' x H'' → Ex β' M' H' M' H'' ∧ ∃ d, ds[i]? = some d ∧ Rz β' M' H'' x d) ∧ (ds.length ≤ i → J.stop i H')
def lI (Γ : Gz) (p : ZTI) : TI := fun σ H R => ∃ (β : Bz) (ρ : ZEnv) (M : Mh) (R' : List Dv → Mh → Prop), Zr Γ β M ρ σ H ∧ p ρ M R' ∧ ∀ ds M' H' J, Ex β M H M' H' → ItZ β J ds M' H' → R' ds M' → R J H'
abbrev QE (Γ : Gz) (X : Cx) (e : Expr) (p : ZTE) : Prop := PE X e (lE Γ p)
abbrev QT (Γ : Gz) (X : Cx) (e : Expr) (p : ZTT) : Prop := PT X e (lT Γ p)
abbrev QW (Γ : Gz) (X : Cx) (e : Expr) (p : ZTT) : Prop := PW X e (lT Γ p)
abbrev QA (Γ : Gz) (X : Cx) (es : List Expr) (p : ZTA) : Prop := PA X es (lA Γ p)
abbrev QS (Γ : Gz) (X : Cx) (s : Stmt) (p : ZTS) : Prop := PS X s (lS Γ p)
abbrev QSs (Γ : Gz) (X : Cx) (s : List Stmt) (p : ZTS) : Prop := PSs X s (lS Γ p)
abbrev QG (Γ : Gz) (X : Cx) (e : Expr) (p : ZTG) : Prop := PG X e (lG Γ p)
abbrev QGs (Γ : Gz) (X : Cx) (e : List Expr) (p : ZTGs) : Prop := PGs X e (lGs Γ p)
abbrev QI (Γ : Gz) (X : Cx) (tg e : Expr) (p : ZTI) : Prop := PI X tg e (lI Γ p)
section
variable {X : Cx}
theorem PE.imp {e : Expr} {t t' : TE} (h : PE X e t) (i : ∀ σ H Q, t' σ H Q → t σ H Q) : PE X e t' := ⟨fun pins s σ H Q I q => h pins s σ H Q I (i _ _ _ q)⟩
theorem PT.imp {e : Expr} {t t' : TT} (h : PT X e t) (i : ∀ σ H Q, t' σ H Q → t σ H Q) : PT X e t' := ⟨fun pins s σ H Q I q => h pins s σ H Q I (i _ _ _ q)⟩
theorem PW.imp {e : Expr} {t t' : TT} (h : PW X e t) (i : ∀ σ H Q, t' σ H Q → t σ H Q) : PW X e t' := fun wh pins s σ H Q I q => h wh pins s σ H Q I (i _ _ _ q)
theorem PA.imp {e : List Expr} {t t' : TA} (h : PA X e t) (i : ∀ σ H Q, t' σ H Q → t σ H Q) : PA X e t' := ⟨fun pos pins s σ H Q I q => h pos pins s σ H Q I (i _ _ _ q)⟩
theorem PS.imp {e : Stmt} {t t' : TS} (h : PS X e t) (i : ∀ D σ H, t' D σ H → t D σ H) : PS X e t' := ⟨fun pins s σ H D I q => h pins s σ H D I (i _ _ _ q)⟩
theorem PSs.imp {e : List Stmt} {t t' : TS} (h : PSs X e t) (i : ∀ D σ H, t' D σ H → t D σ H) : PSs X e t' := ⟨fun pins s σ H D I q => h pins s σ H D I (i _ _ _ q)⟩
theorem PG.imp {e : Expr} {t t' : TG} (h : PG X e t) (i : ∀ v σ H Q, t' v σ H Q → t v σ H Q) : PG X e t' := fun pins s σ H v u Q I r q => h pins s σ H v u Q I r (i _ _ _ _ q)
theorem PGs.imp {e : List Expr} {t t' : TGs} (h : PGs X e t) (i : ∀ v σ H Q, t' v σ H Q → t v σ H Q) : PGs X e t' := fun pins s σ H v u Q I r q => h pins s σ H v u Q I r (i _ _ _ _ q)
theorem PI.imp {tg e : Expr} {t t' : TI} (h : PI X tg e t) (i : ∀ σ H Q, t' σ H Q → t σ H Q) : PI X tg e t' := fun pins s σ H Q I q => h pins s σ H Q I (i _ _ _ q)
theorem PIf.imp {e : List Expr} {t t' : TT} (h : PIf X e t) (i : ∀ σ H Q, t' σ H Q → t σ H Q) : PIf X e t' := fun pins s σ H Q I q => h pins s σ H Q I (i _ _ _ q)
variable {Γ : Gz} {a b c : Expr} {pa pb pc : ZTE} {pos : Pos}

def zVar (i : Nat) : ZTE := fun ρ M Q => match ρ[i]? with | some (some d) => Q d M | _ => False
def zC (d : Dv) : ZTE := fun _ M Q => Q d M
theorem qe_var {i : Nat} {x : Str} (hN : X.N[i]? = some x) (hv : Vis X.env.scope x) (hd : (x == ("__debug__" : Str)) = false := by decide) (hcd : (x == ("__classdict__" : Str)) = false := by decide) : QE Γ X (.Name x pos) (zVar i) :=
  (pe_var hN hv hd hcd).imp fun σ H Q ⟨β, ρ, M, Q', z, h, q⟩ => by
    unfold zVar at h
    split at h
    · rename_i d e
      obtain ⟨v, e2, r⟩ := z.at' i d e
      exact ⟨v, e2, q d M v H (.refl z.mz) r h⟩
    · exact h.elim
theorem qc {e : Expr} {v : V} {d : Dv} (h : PE X e (tC v)) (r : ∀ β M H, Rz β M H v d) : QE Γ X e (zC d) := h.imp fun σ H Q ⟨β, ρ, M, Q', z, h, q⟩ => q d M v H (.refl z.mz) (r β M H) h
theorem qe_int {i j pos} : QE Γ X (.Constant (.int i) j pos) (zC (.int i)) := qc pe_int fun _ _ _ => .int _
theorem qe_bl {b j pos} : QE Γ X (.Constant (.bool b) j pos) (zC (.bl b)) := qc pe_bl fun _ _ _ => .bl _
theorem qe_str {x j pos} : QE Γ X (.Constant (.str x) j pos) (zC (.str x)) := qc pe_str fun _ _ _ => .str _
theorem qe_globI {x : Str} {i : Int} {u : Value} (hg : Gl X x) (hm : X.mg x = some u) (r : RelV (.int i) u) (hd : (x == ("__debug__" : Str)) = false := by decide) : QE Γ X (.Name x pos) (zC (.int i)) := qc (pe_glob hg hm r hd) fun _ _ _ => .int _
theorem qe_globS {x z : Str} {u : Value} (hg : Gl X x) (hm : X.mg x = some u) (r : RelV (.str z) u) (hd : (x == ("__debug__" : Str)) = false := by decide) : QE Γ X (.Name x pos) (zC (.str z)) := qc (pe_glob hg hm r hd) fun _ _ _ => .str _
theorem qe_bltn {x : Str} {v : V} {u : Value} (hg : Gl X x) (hm : X.mg x = none) (hv : bootBuiltins x = some u) (r : RelV v u) (hn : x ≠ "__name__" := by decide) (hd : (x == ("__debug__" : Str)) = false := by decide) : QE Γ X (.Name x pos) (zC (.raw v)) := qc (pe_bltn hg hm hv r hn hd) fun _ _ _ => .raw _

abbrev ZR2 := Dv → Dv → Mh → ZK → Prop
def OpZ (Γ : Gz) (r : R2) (z : ZR2) : Prop := ∀ (β : Bz) x y d e M H Q Q', β.P = Γ.P → β.w = Γ.w → β.K = Γ.K → Mz β M H → Rz β M H x d → Rz β M H y e → z d e M Q' → (∀ d' M' v H', Ex β M H M' H' → Rz β M' H' v d' → Q' d' M' → Q v H') → r x y H Q
def QOp (Γ : Gz) (X : Cx) (f : Value → Value → Sem Value) (z : ZR2) : Prop := ∃ r, OpR X f r ∧ OpZ Γ r z
def zOp (z : ZR2) (pa pb : ZTE) : ZTE := fun ρ M Q => pa ρ M fun d M1 => pb ρ M1 fun e M2 => z d e M2 Q
theorem l_op {r : R2} {z : ZR2} (hz : OpZ Γ r z) {σ : St} {H : Hp} {Q : VK} (h : lE Γ (zOp z pa pb) σ H Q) : tOp r (lE Γ pa) (lE Γ pb) σ H Q := by
  obtain ⟨β, ρ, M, Q', zr, h, q⟩ := h
  exact ⟨β, ρ, M, _, zr, h, fun d M1 v H1 x1 r1 h1 => ⟨β, ρ, M1, _, zr.step x1, h1, fun e M2 u H2 x2 r2 h2 => hz β v u d e M2 H2 Q Q' zr.eP zr.ew zr.eK x2.mz (r1.ex x2) r2 h2 fun d' M' v' H' x3 r3 q3 => q _ _ _ _ (x1.trans (x2.trans x3)) r3 q3⟩⟩
theorem qe_op {op : Operator} {z : ZR2} (ho : QOp Γ X (binaryOp op) z) (ha : QE Γ X a pa) (hb : QE Γ X b pb) : QE Γ X (.BinOp a op b pos) (zOp z pa pb) := by
  obtain ⟨r, h1, h2⟩ := ho
  exact (pe_op h1 ha hb).imp fun σ H Q h => l_op h2 h
theorem qe_cmpR {op : CmpOp} {z : ZR2} (ho : QOp Γ X (compareOp op) z) (ha : QE Γ X a pa) (hb : QE Γ X b pb) (hm : behindInMarks op b = false) : QE Γ X (.Compare a [op] [b] pos) (zOp z pa pb) := by
  obtain ⟨r, h1, h2⟩ := ho
  exact (pe_cmpR h1 ha hb hm).imp fun σ H Q h => l_op h2 h

def zBool (Q : Bool → Mh → Prop) : ZK := fun d M => match d with | .bl k => Q k M | _ => False
theorem zBool_of {Q : Bool → Mh → Prop} {d : Dv} {M : Mh} (h : zBool Q d M) : ∃ k, d = .bl k ∧ Q k M := by
  unfold zBool at h
  split at h
  · exact ⟨_, rfl, h⟩
  · exact h.elim
def zTest (p : ZTE) : ZTT := fun ρ M Q => p ρ M (zBool Q)
theorem l_test {p : ZTE} {t : TE} (i : ∀ σ H Q, lE Γ p σ H Q → t σ H Q) {σ : St} {H : Hp} {Q : Bool → Hp → Prop} (h : lT Γ (zTest p) σ H Q) : tTest t σ H Q := by
  obtain ⟨β, ρ, M, Q', zr, h, q⟩ := h
  refine i _ _ _ ⟨β, ρ, M, _, zr, h, fun d M1 v H1 x1 r1 h1 => ?_⟩
  obtain ⟨k, rfl, h2⟩ := zBool_of h1
  exact ⟨k, rz_bl_of r1, q k M1 H1 x1 h2⟩
theorem qt_cmpR {op : CmpOp} {z : ZR2} (ho : QOp Γ X (compareOp op) z) (ha : QE Γ X a pa) (hb : QE Γ X b pb) (hm : behindInMarks op b = false) : QT Γ X (.Compare a [op] [b] pos) (zTest (zOp z pa pb)) := by
  obtain ⟨r, h1, h2⟩ := ho
  exact (pt_cmpR h1 ha hb hm).imp fun σ H Q h => l_test (fun _ _ _ => l_op h2) h
theorem qt_val {e : Expr} {p : ZTE} (h : QE Γ X e p) (he : ∀ whole, isTrue e X.env whole = (do let v ← whole; standAt e.pos; holding [v] (truthy v)) := by intro _; rfl) : QT Γ X e (zTest p) :=
  (pt_val h he).imp fun σ H Q h => l_test (fun _ _ _ h => h) h
def zChain (z z' : ZR2) (pa pb pc : ZTE) : ZTE := fun ρ M Q => pa ρ M fun x M1 => pb ρ M1 fun y M2 => z x y M2 (zBool fun k M3 => if k = true then pc ρ M3 fun u M4 => z' y u M4 Q else Q (.bl false) M3)
theorem l_chain {r r' : R2} {z z' : ZR2} (hz : OpZ Γ r z) (hz' : OpZ Γ r' z') {σ : St} {H : Hp} {Q : VK} (h : lE Γ (zChain z z' pa pb pc) σ H Q) : tChain r r' (lE Γ pa) (lE Γ pb) (lE Γ pc) σ H Q := by
  obtain ⟨β, ρ, M, Q', zr, h, q⟩ := h
  refine ⟨β, ρ, M, _, zr, h, fun d M1 v H1 x1 r1 h1 => ⟨β, ρ, M1, _, zr.step x1, h1, fun e M2 u H2 x2 r2 h2 => hz β v u d e M2 H2 _ _ zr.eP zr.ew zr.eK x2.mz (r1.ex x2) r2 h2 fun d' M3 v' H3 x3 r3 h3 => ?_⟩⟩
  obtain ⟨k, rfl, h4⟩ := zBool_of h3
  have x13 := x1.trans (x2.trans x3)
  refine ⟨k, rz_bl_of r3, ?_⟩
  cases k with
  | true =>
    rw [if_pos rfl] at h4 ⊢
    exact ⟨β, ρ, M3, _, zr.step x13, h4, fun f M4 g H4 x4 r4 h5 => hz' β u g e f M4 H4 _ _ zr.eP zr.ew zr.eK x4.mz ((r2.ex x3).ex x4) r4 h5 fun d5 M5 v5 H5 x5 r5 q5 => q _ _ _ _ (x13.trans (x4.trans x5)) r5 q5⟩
  | false =>
    rw [if_neg Bool.false_ne_true] at h4 ⊢
    exact q _ _ _ _ x13 (.bl _) h4
theorem qe_chain {op op' : CmpOp} {z z' : ZR2} (ho : QOp Γ X (compareOp op) z) (ho' : QOp Γ X (compareOp op') z') (ha : QE Γ X a pa) (hb : QE Γ X b pb) (hc : QE Γ X c pc) (hm : lastMarks [op, op'] [b, c] = false := by with_unfolding_all rfl) :
    QE Γ X (.Compare a [op, op'] [b, c] pos) (zChain z z' pa pb pc) := by
  obtain ⟨r, h1, h2⟩ := ho
  obtain ⟨r', h1', h2'⟩ := ho'
  exact (pe_chain h1 h1' ha hb hc hm).imp fun σ H Q h => l_chain h2 h2' h
theorem qt_chain {op op' : CmpOp} {z z' : ZR2} (ho : QOp Γ X (compareOp op) z) (ho' : QOp Γ X (compareOp op') z') (ha : QE Γ X a pa) (hb : QE Γ X b pb) (hc : QE Γ X c pc) (hm : lastMarks [op, op'] [b, c] = false := by with_unfolding_all rfl) :
    QT Γ X (.Compare a [op, op'] [b, c] pos) (zTest (zChain z z' pa pb pc)) := by
  obtain ⟨r, h1, h2⟩ := ho
  obtain ⟨r', h1', h2'⟩ := ho'
  exact (pt_chain h1 h1' ha hb hc hm).imp fun σ H Q h => l_test (fun _ _ _ => l_chain h2 h2') h

variable {tA tB' : ZTT} {rest : List Expr}
def zAnd (t u : ZTT) : ZTT := fun ρ M Q => t ρ M fun c M1 => if c = true then u ρ M1 Q else Q false M1
def zOr (t u : ZTT) : ZTT := fun ρ M Q => t ρ M fun c M1 => if c = true then Q true M1 else u ρ M1 Q
def zNot (t : ZTT) : ZTT := fun ρ M Q => t ρ M fun c M1 => Q (!c) M1
theorem qw_or1 (ha : QT Γ X a tA) : QW Γ X (.BoolOp .Or [a] pos) tA := pw_or1 ha
theorem qw_or (ha : QT Γ X a tA) (hb : QW Γ X (.BoolOp .Or (b :: rest) pos) tB') : QW Γ X (.BoolOp .Or (a :: b :: rest) pos) (zOr tA tB') :=
  (pw_or ha hb).imp fun σ H Q ⟨β, ρ, M, Q', zr, h, q⟩ => ⟨β, ρ, M, _, zr, h, fun k M1 H1 x1 h1 => by
    cases k with
    | false => rw [if_neg Bool.false_ne_true] at h1 ⊢; exact ⟨β, ρ, M1, _, zr.step x1, h1, fun k2 M2 H2 x2 h2 => q _ _ _ (x1.trans x2) h2⟩
    | true => rw [if_pos rfl] at h1 ⊢; exact q _ _ _ x1 h1⟩
theorem qt_not (ha : QT Γ X a tA) : QT Γ X (.UnaryOp .Not a pos) (zNot tA) := (pt_not ha).imp fun σ H Q ⟨β, ρ, M, Q', zr, h, q⟩ => ⟨β, ρ, M, _, zr, h, fun k M1 H1 x1 h1 => q _ _ _ x1 h1⟩
theorem QW.pt {e : Expr} {t : ZTT} (h : QW Γ X e t) : QT Γ X e t := PW.pt h
def zAndV (pa pb : ZTE) : ZTE := fun ρ M Q => pa ρ M (zBool fun c M1 => if c = true then pb ρ M1 Q else Q (.bl false) M1)
def zOrV (pa pb : ZTE) : ZTE := fun ρ M Q => pa ρ M (zBool fun c M1 => if c = true then Q (.bl true) M1 else pb ρ M1 Q)
def zNotV (pa : ZTE) : ZTE := fun ρ M Q => pa ρ M (zBool fun c M1 => Q (.bl (!c)) M1)
theorem qe_one {op} (h : QE Γ X a pa) : QE Γ X (.BoolOp op [a] pos) pa := pe_one h
theorem qe_and (ha : QE Γ X a pa) (hb : QE Γ X (.BoolOp .And (b :: rest) pos) pb) : QE Γ X (.BoolOp .And (a :: b :: rest) pos) (zAndV pa pb) :=
  (pe_and ha hb).imp fun σ H Q ⟨β, ρ, M, Q', zr, h, q⟩ => ⟨β, ρ, M, _, zr, h, fun d M1 v H1 x1 r1 h1 => by
    obtain ⟨k, rfl, h2⟩ := zBool_of h1
    refine ⟨k, rz_bl_of r1, ?_⟩
    cases k with
    | true => rw [if_pos rfl] at h2 ⊢; exact ⟨β, ρ, M1, _, zr.step x1, h2, fun d2 M2 v2 H2 x2 r2 h2 => q _ _ _ _ (x1.trans x2) r2 h2⟩
    | false => rw [if_neg Bool.false_ne_true] at h2 ⊢; exact q _ _ _ _ x1 (.bl _) h2⟩
theorem qe_not (ha : QE Γ X a pa) : QE Γ X (.UnaryOp .Not a pos) (zNotV pa) := (pe_not ha).imp fun σ H Q ⟨β, ρ, M, Q', zr, h, q⟩ => ⟨β, ρ, M, _, zr, h, fun d M1 v H1 x1 r1 h1 => by
    obtain ⟨k, rfl, h2⟩ := zBool_of h1
    exact ⟨k, rz_bl_of r1, q _ _ _ _ x1 (.bl _) h2⟩⟩
def zIfE (t : ZTT) (pa pb : ZTE) : ZTE := fun ρ M Q => t ρ M fun c M1 => if c = true then pa ρ M1 Q else pb ρ M1 Q
def zNil : ZTA := fun _ M Q => Q [] M
def zCons (p : ZTE) (r : ZTA) : ZTA := fun ρ M Q => p ρ M fun d M1 => r ρ M1 fun ds M2 => Q (d :: ds) M2
variable {es : List Expr} {za : ZTA}
theorem qa_nil : QA Γ X [] zNil := pa_nil.imp fun σ H Q ⟨β, ρ, M, Q', zr, h, q⟩ => q [] M [] H (.refl zr.mz) .nil h
theorem qa_cons {e : Expr} (ha : QE Γ X e pa) (hr : QA Γ X es za) (hs : starEach (e :: es) X.env = (false, eval e X.env) :: starEach es X.env := by rfl) : QA Γ X (e :: es) (zCons pa za) :=
  (pa_cons ha hr hs).imp fun σ H Q ⟨β, ρ, M, Q', zr, h, q⟩ => ⟨β, ρ, M, _, zr, h, fun d M1 v H1 x1 r1 h1 => ⟨β, ρ, M1, _, zr.step x1, h1, fun ds M2 vs H2 x2 r2 h2 => q _ _ _ _ (x1.trans x2) (.cons (r1.ex x2) r2) h2⟩⟩
def zTup (p : ZTA) : ZTE := fun ρ M Q => p ρ M fun ds M1 => ds.length ≤ sizeLine ∧ Q (.tup ds) M1
def zLst (p : ZTA) : ZTE := fun ρ M Q => p ρ M fun ds M1 => ds.length ≤ sizeLine ∧ Q (.lst ds) M1

def zLstP (p : ZTA) : ZTE := fun ρ M Q => p ρ M fun ds M1 => ds.length ≤ sizeLine ∧ ∀ a, M1 a = none → Q (.ptr a) (updM M1 a (.lst ds))
theorem qe_tup {x1} (h : QA Γ X es za) : QE Γ X (.Tuple es x1 pos) (zTup za) := (pe_tup h).imp fun σ H Q ⟨β, ρ, M, Q', zr, h, q⟩ => ⟨β, ρ, M, _, zr, h, fun ds M1 vs H1 x1 r1 h1 => ⟨by rw [r1.len]; exact h1.1, fun p hp => by
    have x2 := Ex.lay x1.mz hp (.tup vs)
    exact q _ _ _ _ (x1.trans x2) (rz_tup (x1.mz.fz hp) upd_same (r1.ex x2)) h1.2⟩⟩
theorem qe_lst (h : QA Γ X es za) : QE Γ X (.List es pos) (zLst za) := (pe_lst h).imp fun σ H Q ⟨β, ρ, M, Q', zr, h, q⟩ => ⟨β, ρ, M, _, zr, h, fun ds M1 vs H1 x1 r1 h1 => ⟨by rw [r1.len]; exact h1.1, fun p hp => by
    have x2 := Ex.lay x1.mz hp (.lst vs)
    exact q _ _ _ _ (x1.trans x2) (rz_lst (x1.mz.fz hp) upd_same (r1.ex x2)) h1.2⟩⟩
theorem qe_lstP (h : QA Γ X es za) : QE Γ X (.List es pos) (zLstP za) := (pe_lst h).imp fun σ H Q ⟨β, ρ, M, Q', zr, h, q⟩ => ⟨β, ρ, M, _, zr, h, fun ds M1 vs H1 x1 r1 h1 => ⟨by rw [r1.len]; exact h1.1, fun p hp => by
    have x2 := Ex.own x1.mz (.inr hp) r1
    exact q _ _ _ _ (x1.trans x2) (.ptr (by rw [updM_same]; rfl)) (h1.2 p (x1.mz.free hp))⟩⟩

abbrev ZRs := List Dv → Mh → ZK → Prop
def CallZ (Γ : Gz) (r : List V → Hp → VK → Prop) (z : ZRs) : Prop := ∀ (β : Bz) xs ds M H Q Q', β.P = Γ.P → β.w = Γ.w → β.K = Γ.K → Mz β M H → Rzs β M H xs ds → z ds M Q' → (∀ d' M' v H', Ex β M H M' H' → Rz β M' H' v d' → Q' d' M' → Q v H') → r xs H Q
def QCall (Γ : Gz) (X : Cx) (f : Value) (z : ZRs) : Prop := ∃ r, CallR X f r ∧ CallZ Γ r z
def zCB (z : ZRs) (p : ZTA) : ZTE := fun ρ M Q => p ρ M fun ds M1 => z ds M1 Q
theorem l_CB {r : List V → Hp → VK → Prop} {z : ZRs} (hz : CallZ Γ r z) {σ : St} {H : Hp} {Q : VK} (h : lE Γ (zCB z za) σ H Q) : tCB r (lA Γ za) σ H Q := by
  obtain ⟨β, ρ, M, Q', zr, h, q⟩ := h
  exact ⟨β, ρ, M, _, zr, h, fun ds M1 vs H1 x1 r1 h1 => hz β vs ds M1 H1 _ _ zr.eP zr.ew zr.eK x1.mz r1 h1 fun d' M' v' H' x2 r2 q2 => q _ _ _ _ (x1.trans x2) r2 q2⟩

variable {st : Stmt} {sts : List Stmt} {p p2 : ZTS} {e : Expr} {pe : ZTE}
def zNext : ZTS := fun D ρ M => D.nx ρ M
def zSeq (p q : ZTS) : ZTS := fun D ρ M => p { D with nx := q D } ρ M
theorem qss_nil : QSs Γ X [] zNext := pss_nil.imp fun D σ H ⟨β, ρ, M, D', zr, h, r⟩ => r.nx ρ M σ H (.refl zr.mz) zr h
theorem qss_cons (h1 : QS Γ X st p) (h2 : QSs Γ X sts p2) : QSs Γ X (st :: sts) (zSeq p p2) := (pss_cons h1 h2).imp fun D σ H ⟨β, ρ, M, D', zr, h, r⟩ =>
  ⟨β, ρ, M, _, zr, h, fun ρ' M' σ' H' x zr' h' => ⟨β, ρ', M', D', zr', h', r.step x⟩, r.rt, r.bk, r.ct⟩
theorem qss_one (h1 : QS Γ X st p) : QSs Γ X [st] p := pss_one h1
def zDrop (p : ZTE) : ZTS := fun D ρ M => p ρ M fun _ M1 => D.nx ρ M1
theorem qs_expr (he : QE Γ X e pe) (hs : swapsWith e none pos.line X.env = pure false := by rfl) : QS Γ X (.Expr e pos) (zDrop pe) := (ps_expr he hs).imp fun D σ H ⟨β, ρ, M, D', zr, h, r⟩ =>
  ⟨β, ρ, M, _, zr, h, fun d M1 v H1 x1 r1 h1 => r.nx ρ M1 σ H1 x1.ev (zr.step x1) h1⟩
def zRet (p : ZTE) : ZTS := fun D ρ M => p ρ M D.rt
theorem qs_ret (he : QE Γ X e pe) : QS Γ X (.Return (some e) pos) (zRet pe) := (ps_ret he).imp fun D σ H ⟨β, ρ, M, D', zr, h, r⟩ => ⟨β, ρ, M, _, zr, h, fun d M' v H' x r1 h1 => r.rt _ _ _ _ x.ev (zr.ent.trans x.toEy) r1 h1⟩
def zRetN : ZTS := fun D _ M => D.rt .non M
def zIfS (c : ZTT) (p q : ZTS) : ZTS := fun D ρ M => c ρ M fun b M1 => if b = true then p D ρ M1 else q D ρ M1
theorem qs_if {as bs : List Stmt} {pa pb : ZTS} (hc : QT Γ X c tA) (ha : QSs Γ X as pa) (hb : QSs Γ X bs pb) : QS Γ X (.If c as bs pos) (zIfS tA pa pb) := (ps_if hc ha hb).imp fun D σ H ⟨β, ρ, M, D', zr, h, r⟩ =>
  ⟨β, ρ, M, _, zr, h, fun k M1 H1 x1 h1 => by
    cases k with
    | true => rw [if_pos rfl] at h1 ⊢; exact ⟨β, ρ, M1, D', zr.step x1, h1, r.step x1.ev⟩
    | false => rw [if_neg Bool.false_ne_true] at h1 ⊢; exact ⟨β, ρ, M1, D', zr.step x1, h1, r.step x1.ev⟩⟩
def zgName (i : Nat) : ZTG := fun d ρ M N => N (ρ.set i (some d)) M
theorem qg_name {i : Nat} {x : Str} (hN : X.N.Nodup) (hi : X.N[i]? = some x) (hx : Loc X.env.scope x) (hf : X.fn x = true ∨ X.env.scope.names.lookup x = some .local := by first | exact .inl rfl | exact .inr rfl | assumption) : QG Γ X (.Name x pos) (zgName i) :=
  (pg_name hN hi hx hf).imp fun v σ H N ⟨β, d, ρ, M, N', zr, r, h, q⟩ => q _ _ _ _ (.refl zr.mz) (zr.set i r) h
def zgNil : ZTGs := fun ds ρ M N => match ds with | [] => N ρ M | _ => False
def zgCons (g : ZTG) (u : ZTGs) : ZTGs := fun ds ρ M N => match ds with | d :: r => g d ρ M fun ρ' M' => u r ρ' M' N | [] => False
theorem qgs_nil : QGs Γ X [] zgNil := pgs_nil.imp fun vs σ H N ⟨β, ds, ρ, M, N', zr, r, h, q⟩ => by
  unfold zgNil at h
  split at h
  · have e : vs = [] := List.length_eq_zero_iff.mp r.len
    exact ⟨e, q _ _ _ _ (.refl zr.mz) zr h⟩
  · exact h.elim
theorem qgs_cons {g : ZTG} {u : ZTGs} (h1 : QG Γ X e g) (h2 : QGs Γ X es u) (hs : (assignEach (e :: es) X.env).map (·.2) = assign e X.env :: (assignEach es X.env).map (·.2) := by rfl) : QGs Γ X (e :: es) (zgCons g u) :=
  (pgs_cons h1 h2 hs).imp fun vs σ H N ⟨β, ds, ρ, M, N', zr, r, h, q⟩ => by
    unfold zgCons at h
    split at h
    · rename_i d rest
      cases vs with
      | nil => exact absurd r.len (by simp)
      | cons v vs => exact ⟨v, vs, rfl, β, d, ρ, M, _, zr, r.head, h, fun ρ' M' σ' H' x zr' h' => ⟨β, rest, ρ', M', N', zr', r.tail.ex x, h', fun a b c d y => q a b c d (x.trans y)⟩⟩
    · exact h.elim
def zgTup (n : Nat) (u : ZTGs) : ZTG := fun d ρ M N => match d with | .tup ds => ds.length = n ∧ u ds ρ M N | _ => False
theorem qg_tup {k : Nat} {u : ZTGs} {n : Nat} (hc : X.calm = true) (h : QGs Γ X es u) (hn : (assignEach es X.env).length = n := by rfl) (hst : (assignEach es X.env).findIdx? (·.1) = none := by rfl) : QG Γ X (.Tuple es k pos) (zgTup n u) :=
  (pg_tup hc h hn hst).imp fun v σ H N ⟨β, d, ρ, M, N', zr, r, h, q⟩ => by
    unfold zgTup at h
    split at h
    · obtain ⟨a, vs, rfl, m, e, rs⟩ := rz_tup_of r
      exact ⟨a, vs, rfl, SqT.of e, by rw [rs.len]; exact h.1, β, _, ρ, M, N', zr, rs, h.2, q⟩
    · exact h.elim
def zAsg (p : ZTE) (g : ZTG) : ZTS := fun D ρ M => p ρ M fun d M1 => g d ρ M1 D.nx
theorem l_set {t : TE} (i : ∀ σ H Q, lE Γ pe σ H Q → t σ H Q) {n : Nat} {D : Ends} {σ : St} {H : Hp} (h : lS Γ (zAsg pe (zgName n)) D σ H) : tAsg t (gName n) D σ H := by
  obtain ⟨β, ρ, M, D', zr, h, r⟩ := h
  exact i _ _ _ ⟨β, ρ, M, _, zr, h, fun d M1 v H1 x1 r1 h1 => r.nx _ _ _ _ x1.ev ((zr.step x1).set n r1) h1⟩
theorem qs_set {i : Nat} {x : Str} {pos' : Pos} (hN : X.N.Nodup) (hi : X.N[i]? = some x) (hx : Loc X.env.scope x) (he : QE Γ X e pe) (hs : swapsWith e (some (.Name x pos')) pos.line X.env = pure false := by rfl) (hf : X.fn x = true ∨ X.env.scope.names.lookup x = some .local := by first | exact .inl rfl | exact .inr rfl | assumption) :
    QS Γ X (.Assign [.Name x pos'] e pos) (zAsg pe (zgName i)) := (ps_set hN hi hx he hs hf).imp fun D σ H h => l_set (fun _ _ _ h => h) h
end
end L2

set_option Elab.async false
set_option maxRecDepth 100000
set_option maxHeartbeats 4000000
namespace L2
open PySem PySem.Spec PyProof.Rows
section
variable {X : Cx} {Γ : Gz} {β : Bz}

def ziTup (p : ZTE) : ZTI := fun ρ M R => p ρ M fun d M1 => match d with | .tup ds => R ds M1 | _ => False
def ziLst (p : ZTE) : ZTI := fun ρ M R => p ρ M fun d M1 => match d with | .lst ds => R ds M1 | _ => False
def signsD (z : Str) : List Dv := z.cps.toList.map fun c => .str ⟨#[c]⟩
def ziStr (p : ZTE) : ZTI := fun ρ M R => p ρ M fun d M1 => match d with | .str z => R (signsD z) M1 | _ => False
def rangeD (lo : Int) (n : Nat) : List Dv := (List.range n).map fun i => .int (lo + (i : Nat))
def ziRng1 (p : ZTA) : ZTI := fun ρ M R => p ρ M fun ds M1 => match ds with | [.int j] => -(2 ^ 62) ≤ j ∧ j < 2 ^ 62 ∧ R (rangeD 0 j.toNat) M1 | _ => False
def ziRng2 (p : ZTA) : ZTI := fun ρ M R => p ρ M fun ds M1 => match ds with | [.int i, .int j] => (-(2 ^ 62) ≤ i ∧ i < 2 ^ 62 ∧ -(2 ^ 62) ≤ j ∧ j < 2 ^ 62) ∧ R (rangeD i (j - i).toNat) M1 | _ => False
theorem itz_runs {J : It} {vs : List V} {ds : List Dv} {M : Mh} {H : Hp} (r : Rzs β M H vs ds) (h : ∀ M' H', Ey M H M' H' → Runs J vs H') : ItZ β J ds M H := fun β' M' H' bx x m i => by
  have q := h M' H' x i
  rw [← r.len]
  refine ⟨fun hi => ⟨(q.1 hi).1, fun v H'' y => ?_⟩, q.2⟩
  obtain ⟨e, hv⟩ := (q.1 hi).2 v H'' y
  subst e
  obtain ⟨d, hd, rd⟩ := r.get' hv
  exact ⟨.refl m, d, hd, (rd.bx bx).ey x⟩
variable {tg l : Expr} {p : ZTE} {pa : ZTA} {K : PySem.W.Frag}
theorem qi_tup (hK : X.K = K) (hl : QE Γ X l p) : QI Γ X tg l (ziTup p) := (pi_tupK hK hl).imp fun σ H R ⟨β, ρ, M, R', zr, h, q⟩ => ⟨β, ρ, M, _, zr, h, fun d M1 v H1 x1 r1 h1 => by
  revert h1
  split
  · intro h1
    obtain ⟨a, vs, rfl, m, e, rs⟩ := rz_tup_of r1
    exact ⟨a, rfl, ⟨_, SqT.of e⟩, q _ _ _ _ x1 (itz_runs rs fun M' H' x => runs_tup (SqT.of (x.get m.1 e rfl))) h1⟩
  · exact fun h => h.elim⟩
theorem qi_list (hK : X.K = K) (hl : QE Γ X l p) : QI Γ X tg l (ziLst p) := (pi_listK hK hl).imp fun σ H R ⟨β, ρ, M, R', zr, h, q⟩ => ⟨β, ρ, M, _, zr, h, fun d M1 v H1 x1 r1 h1 => by
  revert h1
  split
  · intro h1
    obtain ⟨a, vs, rfl, m, e, rs⟩ := rz_lst_of r1
    exact ⟨a, rfl, ⟨_, SqL.of e⟩, q _ _ _ _ x1 (itz_runs rs fun M' H' x => runs_list (SqL.of (x.get m.1 e rfl))) h1⟩
  · exact fun h => h.elim⟩
theorem rzs_signs {z : Str} {M : Mh} {H : Hp} : Rzs β M H (signsV z) (signsD z) := ⟨by simp [signsV, signsD], fun i v d a b => by
  unfold signsV at a
  unfold signsD at b
  rw [List.getElem?_map] at a b
  cases e : z.cps.toList[i]? with
  | none => rw [e] at a; cases a
  | some c => rw [e] at a b; cases a; cases b; exact .str _⟩
theorem qi_str (hl : QE Γ X l p) : QI Γ X tg l (ziStr p) := (pi_str hl).imp fun σ H R ⟨β, ρ, M, R', zr, h, q⟩ => ⟨β, ρ, M, _, zr, h, fun d M1 v H1 x1 r1 h1 => by
  revert h1
  split
  · intro h1
    exact ⟨_, rz_str_of r1, q _ _ _ _ x1 (itz_runs rzs_signs fun M' H' x => runs_str) h1⟩
  · exact fun h => h.elim⟩
theorem rzs_range {lo : Int} {n : Nat} {M : Mh} {H : Hp} : Rzs β M H ((List.range n).map fun i => V.int (lo + (i : Nat))) (rangeD lo n) := ⟨by simp [rangeD], fun i v d a b => by
  unfold rangeD at b
  rw [List.getElem?_map] at a b
  cases e : (List.range n)[i]? with
  | none => rw [e] at a; cases a
  | some c => rw [e] at a b; cases a; cases b; exact .int _⟩
theorem rzs_one {xs : List V} {d : Dv} {M : Mh} {H : Hp} (r : Rzs β M H xs [d]) : ∃ v, xs = [v] ∧ Rz β M H v d := by
  match xs, r with
  | [v], r => exact ⟨v, rfl, r.head⟩
  | [], r => exact absurd r.len (by simp)
  | _ :: _ :: _, r => exact absurd r.len (by simp)
theorem rzs_two {xs : List V} {d e : Dv} {M : Mh} {H : Hp} (r : Rzs β M H xs [d, e]) : ∃ v u, xs = [v, u] ∧ Rz β M H v d ∧ Rz β M H u e := by
  match xs, r with
  | [v, u], r => exact ⟨v, u, rfl, r.head, r.tail.head⟩
  | [], r => exact absurd r.len (by simp)
  | [_], r => exact absurd r.len (by simp)
  | _ :: _ :: _ :: _, r => exact absurd r.len (by simp)
section
variable {e e1 e2 : Expr} {pr pos : Pos}
theorem l_rng1 {σ : St} {H : Hp} {R : It → Hp → Prop} (h : lI Γ (ziRng1 pa) σ H R) : iRng1 (lA Γ pa) σ H R := by
  obtain ⟨β, ρ, M, R', zr, h, q⟩ := h
  refine ⟨β, ρ, M, _, zr, h, fun ds M1 vs H1 x1 r1 h1 => ?_⟩
  revert h1
  split
  · rintro ⟨b1, b2, h1⟩
    obtain ⟨v, rfl, r⟩ := rzs_one r1
    rw [rz_int_of r]
    exact ⟨_, rfl, b1, b2, q _ _ _ _ x1 (itz_runs rzs_range fun M' H' x => runs_range) h1⟩
  · exact fun h => h.elim
end

def zLoop (g : ZTG) (tb : ZTS) (D : ZEnds) : List Dv → ZEnv → Mh → Prop
  | [], ρ, M => D.nx ρ M
  | d :: ds, ρ, M => g d ρ M fun ρ2 M2 => tb { D with nx := zLoop g tb D ds, ct := zLoop g tb D ds, bk := D.nx } ρ2 M2
def zFor (zi : ZTI) (g : ZTG) (tb : ZTS) : ZTS := fun D ρ M => zi ρ M fun ds M1 => zLoop g tb D ds ρ M1

def zForM (zi : ZTI) (g : ZTG) (tb : Mh → ZTS) : ZTS := fun D ρ M => zi ρ M fun ds M1 => zLoop g (tb M1) D ds ρ M1

def Gz.at (Γ : Gz) (β : Bz) (M : Mh) (H : Hp) : Gz := ⟨β, M, H⟩
theorem Zr.root {M : Mh} {ρ : ZEnv} {σ : St} {H : Hp} (z : Zr Γ β M ρ σ H) : Zr ⟨β, M, H⟩ β M ρ σ H := ⟨rfl, rfl, rfl, rfl, fun _ h => h, z.mz.wf, .refl, z.mz, z.len, z.at'⟩
theorem Zr.unroot {M M1 : Mh} {ρ ρ1 : ZEnv} {σ σ1 : St} {H H1 : Hp} (z : Zr Γ β M ρ σ H) (y : Zr ⟨β, M, H⟩ β M1 ρ1 σ1 H1) : Zr Γ β M1 ρ1 σ1 H1 := ⟨z.eP, z.ew, z.eK, z.et, z.sub, z.wf, z.ent.trans y.ent, y.mz, y.len, y.at'⟩
theorem l_for {zi : ZTI} {g : ZTG} {tb : Mh → ZTS} {t : TS} (hb : ∀ Γ' : Gz, Γ'.P = Γ.P → Γ'.w = Γ.w → Γ'.K = Γ.K → Γ'.tb = Γ.tb → ∀ D σ H, lS Γ' (tb Γ'.M0) D σ H → t D σ H) {tg : TG} (hg : ∀ Γ' : Gz, Γ'.P = Γ.P → Γ'.w = Γ.w → Γ'.K = Γ.K → Γ'.tb = Γ.tb → ∀ x σ H N, lG Γ' g x σ H N → tg x σ H N) {D : Ends} {σ : St} {H : Hp} (h : lS Γ (zForM zi g tb) D σ H) : tFor (lI Γ zi) tg t D σ H := by
  obtain ⟨β, ρ, M, D', zr, h, r⟩ := h
  refine ⟨β, ρ, M, _, zr, h, fun ds M1 H1 J x1 it h1 => ?_⟩
  have zr1 := zr.step x1
  refine ⟨fun i m σ' H' => m = ds.length - i ∧ i ≤ ds.length ∧ ∃ ρ' M', Zr ⟨β, M1, H1⟩ β M' ρ' σ' H' ∧ zLoop g (tb M1) D' (ds.drop i) ρ' M', ⟨ds.length, rfl, Nat.zero_le _, ρ, M1, zr1.root, h1⟩, ?_⟩
  rintro i m σ' H' ⟨rfl, hi, ρ', M', zr', h'⟩
  have ev : ∀ {M2 : Mh} {ρ2 : ZEnv} {σ2 : St} {H2 : Hp}, Zr ⟨β, M1, H1⟩ β M2 ρ2 σ2 H2 → Ev β M H M2 H2 := fun z => x1.ev.trans ⟨z.ent.keep, z.ent.new, z.mz⟩
  by_cases hlt : i < ds.length
  · have q := (it β M' H' .refl zr'.ent zr'.mz i).1 hlt
    refine .inr ⟨q.1, fun σ2 H2 => ∃ ρ2 M2, Zr ⟨β, M1, H1⟩ β M2 ρ2 σ2 H2 ∧ zLoop g (tb M1) D' (ds.drop (i + 1)) ρ2 M2, fun σ2 H2 ⟨ρ2, M2, zr2, h2⟩ => ⟨ds.length - (i + 1), by omega, rfl, hlt, ρ2, M2, zr2, h2⟩, fun v H'' y => ?_⟩
    obtain ⟨x2, d, hd, rd⟩ := q.2 v H'' y
    have e : ds.drop i = d :: ds.drop (i + 1) := by
      rw [List.drop_eq_getElem_cons hlt]
      rw [List.getElem?_eq_getElem hlt] at hd
      cases hd
      rfl
    rw [e] at h'
    refine hg ⟨β, M1, H1⟩ zr.eP zr.ew zr.eK zr.et _ _ _ _ ⟨β, d, ρ', M', _, zr'.step x2, rd, h', fun ρ3 M3 σ3 H3 x3 zr3 h3 => hb ⟨β, M1, H1⟩ zr.eP zr.ew zr.eK zr.et _ _ _ ⟨β, ρ3, M3, _, zr3, h3, ?_⟩⟩
    exact ⟨fun ρ4 M4 σ4 H4 x4 zr4 h4 => ⟨ρ4, M4, zr4, h4⟩, fun d4 M4 v4 H4 x4 e4 r4 h4 => r.rt _ _ _ _ (x1.ev.trans ⟨e4.keep, e4.new, x4.mz⟩) (zr1.ent.trans e4) r4 h4, fun ρ4 M4 σ4 H4 x4 zr4 h4 => r.nx _ _ _ _ (ev zr4) (zr1.unroot zr4) h4, fun ρ4 M4 σ4 H4 x4 zr4 h4 => ⟨ρ4, M4, zr4, h4⟩⟩
  · have e : i = ds.length := by omega
    subst e
    rw [List.drop_length] at h'
    exact .inl ⟨(it β M' H' .refl zr'.ent zr'.mz _).2 (Nat.le_refl _), r.nx _ _ _ _ (ev zr') (zr1.unroot zr') h'⟩

def lSa (Γ : Gz) (p : Mh → ZTS) : TS := fun D σ H => ∃ Γ' : Gz, Γ'.P = Γ.P ∧ Γ'.w = Γ.w ∧ Γ'.K = Γ.K ∧ Γ'.tb = Γ.tb ∧ lS Γ' (p Γ'.M0) D σ H
def lGa (Γ : Gz) (p : ZTG) : TG := fun x σ H N => ∃ Γ' : Gz, Γ'.P = Γ.P ∧ Γ'.w = Γ.w ∧ Γ'.K = Γ.K ∧ Γ'.tb = Γ.tb ∧ lG Γ' p x σ H N
theorem qs_forM {body : List Stmt} {iter : Expr} {zi : ZTI} {g : ZTG} {tb : Mh → ZTS} {pos : Pos} (hp : PassesOwn (model X.prog X.w) X.A X.env X.xe) (hc : X.calm = true) (hi : QI Γ X tg iter zi)
    (hgb : ∀ (Γ' : Gz) (M1 : Mh), Γ'.M0 = M1 → Γ'.P = Γ.P → Γ'.w = Γ.w → Γ'.K = Γ.K → Γ'.tb = Γ.tb → QG Γ' X tg g ∧ QSs Γ' X body (tb M1))
    (hs : ∀ x, foldedSetIterable iter X.env x = pure x := by intro _; rfl) : QS Γ X (.For tg iter body [] pos) (zForM zi g tb) :=
  (ps_for (g := lGa Γ g) (tb := lSa Γ tb) hp hc hi (fun pins s σ H v u Q I r h => by obtain ⟨Γ', e1, e2, e3, e4, h⟩ := h; exact (hgb Γ' _ rfl e1 e2 e3 e4).1 pins s σ H v u Q I r h) ⟨fun pins s σ H D I h => by obtain ⟨Γ', e1, e2, e3, e4, h⟩ := h; exact (hgb Γ' _ rfl e1 e2 e3 e4).2 pins s σ H D I h⟩ hs).imp
    fun D σ H h => l_for (fun Γ' e1 e2 e3 e4 D σ H h => ⟨Γ', e1, e2, e3, e4, h⟩) (fun Γ' e1 e2 e3 e4 x σ H N h => ⟨Γ', e1, e2, e3, e4, h⟩) h
theorem qs_for {body : List Stmt} {iter : Expr} {zi : ZTI} {g : ZTG} {tb : ZTS} {pos : Pos} (hp : PassesOwn (model X.prog X.w) X.A X.env X.xe) (hc : X.calm = true) (hi : QI Γ X tg iter zi)
    (hgb : ∀ Γ' : Gz, Γ'.P = Γ.P → Γ'.w = Γ.w → Γ'.K = Γ.K → Γ'.tb = Γ.tb → QG Γ' X tg g ∧ QSs Γ' X body tb)
    (hs : ∀ x, foldedSetIterable iter X.env x = pure x := by intro _; rfl) : QS Γ X (.For tg iter body [] pos) (zFor zi g tb) := qs_forM (tb := fun _ => tb) hp hc hi (fun Γ' M1 _ e1 e2 e3 e4 => hgb Γ' e1 e2 e3 e4) hs
theorem qi_range1 {a : Expr} {p pos : Pos} (hg : Gl X "range") (hm : X.mg "range" = none) (ha : QA Γ X [a] pa) (hs : starEach [a] X.env = [(false, eval a X.env)] := by rfl) : QI Γ X tg (.Call (.Name "range" p) [a] [] pos) (ziRng1 pa) := (pi_range1 hg hm ha hs).imp fun σ H R h => l_rng1 h
def zWhile (c : ZTT) (tb : ZTS) : ZTS := fun D ρ M => ∃ W : Nat → ZEnv → Mh → Prop, (∃ m, W m ρ M) ∧ ∀ m ρ M, W m ρ M →
  c ρ M fun b M1 => if b = true then tb { D with nx := fun ρ' M' => ∃ m', m' < m ∧ W m' ρ' M', ct := fun ρ' M' => ∃ m', m' < m ∧ W m' ρ' M', bk := D.nx } ρ M1 else D.nx ρ M1
theorem l_while {c : ZTT} {tb : ZTS} {D : Ends} {σ : St} {H : Hp} (h : lS Γ (zWhile c tb) D σ H) : tWhile (lT Γ c) (lS Γ tb) D σ H := by
  obtain ⟨β, ρ, M, D', zr, ⟨W, ⟨m0, w0⟩, turn⟩, r⟩ := h
  refine ⟨fun m σ' H' => ∃ ρ' M', Ev β M H M' H' ∧ Zr Γ β M' ρ' σ' H' ∧ W m ρ' M', ⟨m0, ρ, M, .refl zr.mz, zr, w0⟩, ?_⟩
  rintro m σ' H' ⟨ρ', M', x', zr', w'⟩
  refine ⟨β, ρ', M', _, zr', turn m ρ' M' w', fun k M1 H1 x1 h1 => ?_⟩
  have x01 := x'.trans x1.ev
  cases k with
  | true =>
    dsimp only at h1 ⊢
    rw [if_pos rfl] at h1 ⊢
    refine ⟨fun σ2 H2 => ∃ m', m' < m ∧ ∃ ρ2 M2, Ev β M H M2 H2 ∧ Zr Γ β M2 ρ2 σ2 H2 ∧ W m' ρ2 M2, fun σ2 H2 h2 => h2, β, ρ', M1, _, zr'.step x1, h1, ?_⟩
    exact ⟨fun ρ4 M4 σ4 H4 x4 zr4 ⟨m', hm, w4⟩ => ⟨m', hm, ρ4, M4, x01.trans x4, zr4, w4⟩, fun d4 M4 v4 H4 x4 e4 r4 h4 => r.rt _ _ _ _ (x01.trans x4) e4 r4 h4, fun ρ4 M4 σ4 H4 x4 zr4 h4 => r.nx _ _ _ _ (x01.trans x4) zr4 h4, fun ρ4 M4 σ4 H4 x4 zr4 ⟨m', hm, w4⟩ => ⟨m', hm, ρ4, M4, x01.trans x4, zr4, w4⟩⟩
  | false =>
    dsimp only at h1 ⊢
    rw [if_neg Bool.false_ne_true] at h1 ⊢
    exact r.nx _ _ _ _ x01 (zr'.step x1) h1
theorem qs_while {body : List Stmt} {c : Expr} {zc : ZTT} {tb : ZTS} {pos : Pos} (hp : PassesOwn (model X.prog X.w) X.A X.env X.xe) (hc : QT Γ X c zc) (hb : QSs Γ X body tb) : QS Γ X (.While c body [] pos) (zWhile zc tb) := (ps_while hp hc hb).imp fun D σ H h => l_while h

theorem zloop_inv {g : ZTG} {tb : ZTS} {D : ZEnds} (J : Nat → ZEnv → Mh → Prop) {ds : List Dv} {ρ : ZEnv} {M : Mh} (h0 : J 0 ρ M)
    (hs : ∀ i d ρ M (N : ZEnv → Mh → Prop), ds[i]? = some d → J i ρ M → (∀ ρ' M', J (i + 1) ρ' M' → N ρ' M') → g d ρ M fun ρ2 M2 => tb { D with nx := N, ct := N, bk := D.nx } ρ2 M2)
    (hd : ∀ ρ M, J ds.length ρ M → D.nx ρ M) : zLoop g tb D ds ρ M := by
  have key : ∀ (n i : Nat) ρ M, n = ds.length - i → i ≤ ds.length → J i ρ M → zLoop g tb D (ds.drop i) ρ M := by
    intro n
    induction n with
    | zero =>
      intro i ρ M e hi h
      have : i = ds.length := by omega
      subst this
      rw [List.drop_length]
      exact hd _ _ h
    | succ n ih =>
      intro i ρ M e hi h
      have hlt : i < ds.length := by omega
      rw [List.drop_eq_getElem_cons hlt]
      exact hs i _ ρ M _ (List.getElem?_eq_getElem hlt) h fun ρ M h => ih (i + 1) ρ M (by omega) hlt h
  exact key _ 0 ρ M rfl (Nat.zero_le _) h0
end
end L2

set_option Elab.async false
set_option maxRecDepth 100000
set_option maxHeartbeats 4000000
namespace L2
open PySem PySem.Spec PyProof.Rows
section
variable {X : Cx} {Γ : Gz} {β : Bz}

def zBlock (tn : Nat) (idx : List Nat) (ρ : ZEnv) : ZEnv := List.replicate tn none ++ idx.map fun i => (ρ[i]?).join
theorem Zr.block {M : Mh} {ρ : ZEnv} {σ : St} {H : Hp} (z : Zr Γ β M ρ σ H) (tn : Nat) (idx : List Nat) : Zr Γ β M (zBlock tn idx ρ) (blockSt tn idx σ) H := ⟨z.eP, z.ew, z.eK, z.et, z.sub, z.wf, z.ent, z.mz, by simp [zBlock, blockSt], fun i d e => by
  unfold zBlock at e
  unfold blockSt
  rw [List.getElem?_append] at e ⊢
  rw [List.length_replicate] at e ⊢
  split at e
  · rw [List.getElem?_replicate] at e
    split at e <;> cases e
  · rename_i hi
    rw [if_neg hi]
    rw [List.getElem?_map] at e ⊢
    cases q : idx[i - tn]? with
    | none => rw [q] at e; cases e
    | some j =>
      rw [q] at e
      have e2 : ρ[j]? = some (some d) := by
        simp only [Option.map_some, Option.some.injEq] at e
        cases q2 : ρ[j]? with
        | none => rw [q2] at e; cases e
        | some o => rw [q2] at e; simp only [Option.join_some] at e; rw [e]
      obtain ⟨v, hv, r⟩ := z.at' j d e2
      exact ⟨v, by simp [hv], r⟩⟩
theorem Zr.enter {M : Mh} {ρ : ZEnv} {σ : St} {H : Hp} {D : Addr} {o : HO} (z : Zr Γ β M ρ σ H) (hD : H D = none) (ho : hidB o = true) : Zr Γ (β.add D) M ρ σ (upd H D o) :=
  ⟨z.eP, z.ew, z.eK, z.et, fun a h => List.mem_cons_of_mem _ (z.sub a h), z.wf, z.ent.over (z.ent.gone hD (by
    cases e : Γ.M0 D with
    | none => rfl
    | some u => have := z.ent.dom D (by rw [e]; rfl); rw [z.mz.free hD] at this; cases this)), z.mz.enter hD ho, z.len, fun i d e => let ⟨v, h, r⟩ := z.at' i d e; ⟨v, h, r.enter hD⟩⟩
theorem Zr.over {M : Mh} {ρ : ZEnv} {σ : St} {H : Hp} {D : Addr} {o : HO} (z : Zr Γ β M ρ σ H) (hD : D ∈ β.hid) (ho : hidB o = true) (hM : M D = none) (ht : D ∉ β.tb) (h0 : Γ.H0 D = none) : Zr Γ β M ρ σ (upd H D o) :=
  ⟨z.eP, z.ew, z.eK, z.et, z.sub, z.wf, z.ent.over h0, z.mz.over hD ho hM ht, z.len, fun i d e => let ⟨v, h, r⟩ := z.at' i d e; ⟨v, h, r.over hD⟩⟩
abbrev QIf (Γ : Gz) (X : Cx) (ifs : List Expr) (t : ZTT) : Prop := PIf X ifs (lT Γ t)
def zNoIf : ZTT := fun _ M Q => Q true M
theorem qif_nil : QIf Γ X [] zNoIf := pif_nil.imp fun σ H Q ⟨β, ρ, M, Q', zr, h, q⟩ => q true M H (.refl zr.mz) h
theorem qif_one {c : Expr} {tc : ZTT} (h : QT Γ X c tc) : QIf Γ X [c] tc := pif_one h
def zMap (g : ZTG) (tt : ZTT) (te : ZTE) : List Dv → ZEnv → Mh → (List Dv → Mh → Prop) → Prop
  | [], _, M, Q => Q [] M
  | d :: ds, τ, M, Q => g d τ M fun τ2 M2 => tt τ2 M2 fun b M3 => if b = true then te τ2 M3 fun y M4 => zMap g tt te ds τ2 M4 fun ys M5 => Q (y :: ys) M5 else zMap g tt te ds τ2 M3 Q

structure Acc (Γ : Gz) (β : Bz) (D : Addr) (M1 : Mh) (H1 : Hp) (τ' : ZEnv) (M : Mh) (τ : St) (H : Hp) (acc : List V) (dacc : List Dv) : Prop where
  ey : Ey M1 H1 M H
  m : M D = none
  zr : Zr Γ (β.add D) M τ' τ H
  at' : H D = some (.lst acc)
  rs : Rzs (β.add D) M H acc dacc
  h1 : H1 D = none
  h0 : Γ.H0 D = none
  nt : D ∉ β.tb
theorem Acc.start {D : Addr} {M1 : Mh} {H1 : Hp} {τ' : ZEnv} {τ : St} (zr : Zr Γ β M1 τ' τ H1) (hD : H1 D = none) : Acc Γ β D M1 H1 τ' M1 τ (upd H1 D (.lst [])) [] [] :=
  ⟨Ey.refl.over hD, zr.mz.free hD, zr.enter hD rfl, upd_same, .nil, hD, zr.ent.gone hD (by
    cases e : Γ.M0 D with
    | none => rfl
    | some u => have := zr.ent.dom D (by rw [e]; rfl); rw [zr.mz.free hD] at this; cases this), zr.mz.ntab hD⟩
section
variable {D : Addr} {M1 M M2 : Mh} {H1 H H2 : Hp} {τ' τ2' : ZEnv} {τ τ2 : St} {acc : List V} {dacc : List Dv}
theorem Acc.step (A : Acc Γ β D M1 H1 τ' M τ H acc dacc) (x : Ex (β.add D) M H M2 H2) (z : Zr Γ (β.add D) M2 τ2' τ2 H2) : Acc Γ β D M1 H1 τ2' M2 τ2 H2 acc dacc :=
  ⟨A.ey.trans x.toEy, x.new D _ A.m A.at', z, x.get A.m A.at' rfl, A.rs.ex x, A.h1, A.h0, A.nt⟩
theorem Acc.snoc (A : Acc Γ β D M1 H1 τ' M τ H acc dacc) {y : V} {d : Dv} (r : Rz (β.add D) M H y d) : Acc Γ β D M1 H1 τ' M τ (upd H D (.lst (acc ++ [y]))) (acc ++ [y]) (dacc ++ [d]) := by
  have hD : D ∈ (β.add D).hid := List.mem_cons_self
  exact ⟨A.ey.over A.h1, A.m, A.zr.over hD rfl A.m A.nt A.h0, upd_same, ⟨by simp [A.rs.len], fun i v d a b => ((A.rs.snoc r).at' i v d a b).over hD⟩, A.h1, A.h0, A.nt⟩
theorem Acc.fz (A : Acc Γ β D M1 H1 τ' M τ H acc dacc) (m1 : Mz β M1 H1) : Fz β M D := ⟨A.m, (m1.fz A.h1).2⟩
theorem Acc.mz (A : Acc Γ β D M1 H1 τ' M τ H acc dacc) : Mz β M H := Mz.sub (β := β.add D) (β' := β) rfl rfl rfl rfl (fun a h => List.mem_cons_of_mem _ h) A.zr.mz
theorem Acc.items (A : Acc Γ β D M1 H1 τ' M τ H acc dacc) : Rzs β M H acc dacc := ⟨A.rs.len, fun i v d a b => Rz.sub (β := β.add D) (β' := β) rfl rfl rfl (fun a h => List.mem_cons_of_mem _ h) (A.rs.at' i v d a b)⟩
theorem Acc.ex (A : Acc Γ β D M1 H1 τ' M τ H acc dacc) : Ex β M1 H1 M H := ⟨A.ey, A.mz⟩
end
def zComp (tn : Nat) (idx : List Nat) (zi : ZTI) (g : ZTG) (tt : ZTT) (te : ZTE) : ZTE := fun ρ M Q => zi ρ M fun ds M1 => ds.length < sizeLine ∧ zMap g tt te ds (zBlock tn idx ρ) M1 fun ys M2 => Q (.lst ys) M2

def zCompP (tn : Nat) (idx : List Nat) (zi : ZTI) (g : ZTG) (tt : ZTT) (te : ZTE) : ZTE := fun ρ M Q => zi ρ M fun ds M1 => ds.length < sizeLine ∧ zMap g tt te ds (zBlock tn idx ρ) M1 fun ys M2 => ∀ a, M2 a = none → Q (.ptr a) (updM M2 a (.lst ys))
def zTupG (tn : Nat) (idx : List Nat) (zi : ZTI) (g : ZTG) (tt : ZTT) (te : ZTE) : ZTE := fun ρ M Q => zi ρ M fun ds M1 => ds.length < sizeLine ∧ zMap g tt te ds (zBlock tn idx ρ) M1 fun ys M2 => Q (.tup ys) M2
variable {zi : ZTI} {g : ZTG} {tt : ZTT} {te : ZTE} {tn : Nat} {idx : List Nat}

def AccW (Γ : Gz) (β : Bz) (D : Addr) (M1 : Mh) (H1 : Hp) (g : ZTG) (tt : ZTT) (te : ZTE) (ds : List Dv) (Q' : List Dv → Mh → Prop) (i m : Nat) (τ : St) (H : Hp) : Prop :=
  m = ds.length - i ∧ i ≤ ds.length ∧ ∃ τ' M acc dacc, Acc Γ β D M1 H1 τ' M τ H acc dacc ∧ acc.length ≤ i ∧ zMap g tt te (ds.drop i) τ' M fun ys M2 => Q' (dacc ++ ys) M2
theorem accW_turn {D : Addr} {M1 : Mh} {H1 : Hp} {ds : List Dv} {Q' : List Dv → Mh → Prop} {J : It} (it : ItZ β J ds M1 H1) (hlen : ds.length < sizeLine) {i m : Nat} {τ : St} {H : Hp} (w : AccW Γ β D M1 H1 g tt te ds Q' i m τ H)
    {C : V → St → Hp → Prop} (hC : ∀ y τ2 H4 acc, H4 D = some (.lst acc) → acc.length < sizeLine → (∃ m', m' < m ∧ AccW Γ β D M1 H1 g tt te ds Q' (i + 1) m' τ2 (upd H4 D (.lst (acc ++ [y])))) → C y τ2 H4) :
    (J.stop i H ∧ ∃ τ' M acc dacc, Acc Γ β D M1 H1 τ' M τ H acc dacc ∧ acc.length < sizeLine ∧ Q' dacc M) ∨
    (J.go i H ∧ ∀ x H', J.yld i H x H' → lG Γ g x τ H' fun τ2 H2 => lT Γ tt τ2 H2 fun b H3 => if b = true then lE Γ te τ2 H3 fun y H4 => C y τ2 H4 else ∃ m', m' < m ∧ AccW Γ β D M1 H1 g tt te ds Q' (i + 1) m' τ2 H3) := by
  obtain ⟨rfl, hi, τ', M, acc, dacc, A, hacc, h⟩ := w
  have q := it (β.add D) M H (.add A.h1) A.ey A.zr.mz i
  by_cases hlt : i < ds.length
  · refine .inr ⟨(q.1 hlt).1, fun x H' y => ?_⟩
    obtain ⟨x2, d, hd, rd⟩ := (q.1 hlt).2 x H' y
    have e : ds.drop i = d :: ds.drop (i + 1) := by
      rw [List.drop_eq_getElem_cons hlt]
      rw [List.getElem?_eq_getElem hlt] at hd
      cases hd
      rfl
    rw [e] at h
    have A2 := A.step x2 (A.zr.step x2)
    refine ⟨β.add D, d, τ', M, _, A2.zr, rd, h, fun τ3' M3 τ3 H3 x3 z3 h3 => ?_⟩
    have A3 := A2.step x3 z3
    refine ⟨β.add D, τ3', M3, _, z3, h3, fun b M4 H4 x4 h4 => ?_⟩
    have A4 := A3.step x4 (z3.step x4)
    cases b with
    | false =>
      dsimp only at h4 ⊢
      rw [if_neg Bool.false_ne_true] at h4 ⊢
      exact ⟨ds.length - (i + 1), by omega, rfl, hlt, τ3', M4, acc, dacc, A4, by omega, h4⟩
    | true =>
      dsimp only at h4 ⊢
      rw [if_pos rfl] at h4 ⊢
      refine ⟨β.add D, τ3', M4, _, A4.zr, h4, fun yd M5 yv H5 x5 r5 h5 => ?_⟩
      have A5 := A4.step x5 (A4.zr.step x5)
      refine hC yv τ3 H5 acc A5.at' (by omega) ⟨ds.length - (i + 1), by omega, rfl, hlt, τ3', M5, acc ++ [yv], dacc ++ [yd], A5.snoc r5, by simp; omega, ?_⟩
      have e2 : (fun ys M2 => Q' (dacc ++ [yd] ++ ys) M2) = fun ys M2 => Q' (dacc ++ yd :: ys) M2 := by
        funext ys M2
        rw [List.append_assoc]
        rfl
      rw [e2]
      exact h5
  · have e : i = ds.length := by omega
    subst e
    rw [List.drop_length] at h
    refine .inl ⟨q.2 (Nat.le_refl _), τ', M, acc, dacc, A, by omega, ?_⟩
    have h' : Q' (dacc ++ []) M := h
    rwa [List.append_nil] at h'
theorem accW_start {D : Addr} {M1 : Mh} {H1 : Hp} {ds : List Dv} {Q' : List Dv → Mh → Prop} {τ' : ZEnv} {τ : St} (zr : Zr Γ β M1 τ' τ H1) (hD : H1 D = none) (h : zMap g tt te ds τ' M1 Q') : AccW Γ β D M1 H1 g tt te ds Q' 0 ds.length τ (upd H1 D (.lst [])) :=
  ⟨rfl, Nat.zero_le _, τ', M1, [], [], .start zr hD, Nat.le_refl _, h⟩
theorem l_comp {σ : St} {H : Hp} {Q : VK} (h : lE Γ (zComp tn idx zi g tt te) σ H Q) : tComp tn idx (lI Γ zi) (lG Γ g) (lT Γ tt) (lE Γ te) σ H Q := by
  obtain ⟨β, ρ, M, Q', zr, h, q⟩ := h
  refine ⟨β, ρ, M, _, zr, h, fun ds M1 H1 J x1 it ⟨hlen, h1⟩ D hD => ?_⟩
  have zr1 := zr.step x1
  refine ⟨AccW Γ β D M1 H1 g tt te ds fun ys M2 => Q' (.lst ys) M2, ⟨_, accW_start (zr1.block tn idx) hD h1⟩, fun i m τ H' w => ?_⟩
  rcases accW_turn it hlen w (C := fun y τ2 H4 => ∃ ys m', H4 D = some (.lst ys) ∧ ys.length < sizeLine ∧ m' < m ∧ AccW Γ β D M1 H1 g tt te ds (fun ys M2 => Q' (.lst ys) M2) (i + 1) m' τ2 (upd H4 D (.lst (ys ++ [y])))) (fun y τ2 H4 acc e hl ⟨m', hm, w'⟩ => ⟨acc, m', e, hl, hm, w'⟩) with ⟨hs, τ', M', acc, dacc, A, _, hq⟩ | z
  · exact .inl ⟨hs, q _ _ _ _ (x1.trans A.ex) (rz_lst (A.fz zr1.mz) A.at' A.items) hq⟩
  · exact .inr z
theorem l_mk {P : Addr} {zi : ZTI} {R : It → Hp → Prop} {σ : St} {H : Hp} {ρ : ZEnv} {M : Mh} {R' : List Dv → Mh → Prop} (hP : P ∈ Γ.tb) (zr : Zr Γ β M ρ σ H) (h : zi ρ M R') (q : ∀ ds M' H' J, Ex β M H M' H' → ItZ β J ds M' H' → R' ds M' → R J H') : tMk P (lI Γ zi) R σ H := by
  refine ⟨β, ρ, M, _, zr, h, fun ds M1 H1 J x1 it h1 => ?_⟩
  have hP' : P ∈ β.tb := by rw [zr.et]; exact hP
  refine ⟨x1.mz.tabs P hP', fun ps t => ?_⟩
  have x2 := Ex.grow x1.mz hP' t
  refine q ds M1 _ J (x1.trans x2) (fun β' M' H' bx ey mz => it β' M' H' ⟨bx.P, bx.w, bx.K, bx.tb, bx.old, fun a ha => ?_⟩ (x2.toEy.trans ey) mz) h1
  rcases bx.new a ha with z | z
  · exact .inl z
  · right
    cases e : H1 a with
    | none => rfl
    | some o => obtain ⟨u, hu⟩ := upd_some (p := P) (o := .tbl ps) ⟨o, e⟩; rw [z] at hu; cases hu
theorem l_tupG {P : Addr} (hP : P ∈ Γ.tb) {σ : St} {H : Hp} {Q : VK} (h : lE Γ (zTupG tn idx zi g tt te) σ H Q) : tTupG P tn idx (lI Γ zi) (lG Γ g) (lT Γ tt) (lE Γ te) σ H Q := by
  obtain ⟨β, ρ, M, Q', zr, h, q⟩ := h
  refine l_mk hP zr h fun ds M1 H1 J x1 it ⟨hlen, h1⟩ D hD => ?_
  have zr1 := zr.step x1
  refine ⟨AccW Γ β D M1 H1 g tt te ds fun ys M2 => Q' (.tup ys) M2, ⟨_, accW_start (zr1.block tn idx) hD h1⟩, fun i m τ H' w => ?_⟩
  rcases accW_turn it hlen w (C := fun y τ2 H4 => takeIn D y H4 fun H5 => ∃ m', m' < m ∧ AccW Γ β D M1 H1 g tt te ds (fun ys M2 => Q' (.tup ys) M2) (i + 1) m' τ2 H5) (fun y τ2 H4 acc e hl hw => ⟨acc, e, hl, hw⟩) with ⟨hs, τ', M', acc, dacc, A, _, hq⟩ | z
  · refine .inl ⟨hs, acc, A.at', fun l hl => ?_⟩
    have x2 := Ex.lay A.mz hl (.tup acc)
    exact q _ _ _ _ (x1.trans (A.ex.trans x2)) (rz_tup (A.mz.fz hl) upd_same (A.items.ex x2)) hq
  · exact .inr z

def zAllL (g : ZTG) (tt : ZTT) (te : ZTE) : List Dv → ZEnv → Mh → (Bool → Mh → Prop) → Prop
  | [], _, M, Q => Q true M
  | d :: ds, τ, M, Q => g d τ M fun τ2 M2 => tt τ2 M2 fun b M3 => if b = true then te τ2 M3 (zBool fun c M4 => if c = false then Q false M4 else zAllL g tt te ds τ2 M4 Q) else zAllL g tt te ds τ2 M3 Q
def zAll (tn : Nat) (idx : List Nat) (zi : ZTI) (g : ZTG) (tt : ZTT) (te : ZTE) : ZTE := fun ρ M Q => zi ρ M fun ds M1 => zAllL g tt te ds (zBlock tn idx ρ) M1 fun b M2 => Q (.bl b) M2
theorem l_all {P : Addr} (hP : P ∈ Γ.tb) {σ : St} {H : Hp} {Q : VK} (h : lE Γ (zAll tn idx zi g tt te) σ H Q) : tAll P tn idx (lI Γ zi) (lG Γ g) (lT Γ tt) (lE Γ te) σ H Q := by
  obtain ⟨β, ρ, M, Q', zr, h, q⟩ := h
  refine l_mk hP zr h fun ds M1 H1 J x1 it h1 => ?_
  have zr1 := zr.step x1
  refine ⟨fun i m τ H' => m = ds.length - i ∧ i ≤ ds.length ∧ ∃ τ' M', Ex β M1 H1 M' H' ∧ Zr Γ β M' τ' τ H' ∧ zAllL g tt te (ds.drop i) τ' M' fun b M2 => Q' (.bl b) M2, ⟨_, rfl, Nat.zero_le _, _, M1, .refl x1.mz, zr1.block tn idx, h1⟩, ?_⟩
  rintro i m τ H' ⟨rfl, hi, τ', M', x', zr', h'⟩
  have qq := it β M' H' .refl x'.toEy x'.mz i
  by_cases hlt : i < ds.length
  · refine .inr ⟨(qq.1 hlt).1, fun x H'' y => ?_⟩
    obtain ⟨x2, d, hd, rd⟩ := (qq.1 hlt).2 x H'' y
    have e : ds.drop i = d :: ds.drop (i + 1) := by
      rw [List.drop_eq_getElem_cons hlt]
      rw [List.getElem?_eq_getElem hlt] at hd
      cases hd
      rfl
    rw [e] at h'
    refine ⟨β, d, τ', M', _, zr'.step x2, rd, h', fun τ3' M3 τ3 H3 x3 z3 h3 => ⟨β, τ3', M3, _, z3, h3, fun b M4 H4 x4 h4 => ?_⟩⟩
    have x24 := x'.trans (x2.trans (x3.trans x4))
    cases b with
    | false =>
      dsimp only at h4 ⊢
      rw [if_neg Bool.false_ne_true] at h4 ⊢
      exact ⟨ds.length - (i + 1), by omega, rfl, hlt, τ3', M4, x24, z3.step x4, h4⟩
    | true =>
      dsimp only at h4 ⊢
      rw [if_pos rfl] at h4 ⊢
      refine ⟨β, τ3', M4, _, z3.step x4, h4, fun yd M5 yv H5 x5 r5 h5 => ?_⟩
      obtain ⟨k, rfl, h6⟩ := zBool_of h5
      refine ⟨k, rz_bl_of r5, ?_⟩
      cases k with
      | false =>
        rw [if_pos rfl] at h6 ⊢
        exact q _ _ _ _ (x1.trans (x24.trans x5)) (.bl _) h6
      | true =>
        rw [if_neg (by decide)] at h6 ⊢
        exact ⟨ds.length - (i + 1), by omega, rfl, hlt, τ3', M5, x24.trans x5, (z3.step x4).step x5, h6⟩
  · have e : i = ds.length := by omega
    subst e
    rw [List.drop_length] at h'
    exact .inl ⟨qq.2 (Nat.le_refl _), q _ _ _ _ (x1.trans x') (.bl _) h'⟩
end
end L2

set_option Elab.async false
set_option maxRecDepth 100000
set_option maxHeartbeats 4000000
namespace L2
open PySem PySem.Spec PyProof.Rows
section
variable {X : Cx} {Γ : Gz} {β : Bz} {K : PySem.W.Frag}

def zII (f : Int → Int → Dv) : ZR2 := fun d e M Q => match d, e with | .int i, .int j => Q (f i j) M | _, _ => False
def zIC (C : Int → Int → Prop) (f : Int → Int → Dv) : ZR2 := fun d e M Q => match d, e with | .int i, .int j => C i j ∧ Q (f i j) M | _, _ => False
theorem opz_II {g : Int → Int → V} {f : Int → Int → Dv} (h : ∀ β M H i j, Rz β M H (g i j) (f i j)) : OpZ Γ (rI0 g) (zII f) := fun β x y d e M H Q Q' _ _ _ m rx ry z q => by
  unfold zII at z
  split at z
  · exact ⟨_, _, rz_int_of rx, rz_int_of ry, q _ _ _ _ (.refl m) (h ..) z⟩
  · exact z.elim
theorem opz_IC {C : Int → Int → Prop} {g : Int → Int → V} {f : Int → Int → Dv} (h : ∀ β M H i j, Rz β M H (g i j) (f i j)) : OpZ Γ (rI C g) (zIC C f) := fun β x y d e M H Q Q' _ _ _ m rx ry z q => by
  unfold zIC at z
  split at z
  · exact ⟨_, _, rz_int_of rx, rz_int_of ry, z.1, q _ _ _ _ (.refl m) (h ..) z.2⟩
  · exact z.elim
theorem q_add : QOp Γ X (binaryOp .Add) (zII fun i j => .int (i + j)) := ⟨_, op_add, opz_II fun _ _ _ _ _ => .int _⟩
theorem q_sub : QOp Γ X (binaryOp .Sub) (zII fun i j => .int (i - j)) := ⟨_, op_sub, opz_II fun _ _ _ _ _ => .int _⟩
theorem q_mod : QOp Γ X (binaryOp .Mod) (zIC (fun _ j => 0 < j) fun i j => .int (i % j)) := ⟨_, op_mod, opz_IC fun _ _ _ _ _ => .int _⟩
theorem q_lt : QOp Γ X (compareOp .Lt) (zII fun i j => .bl (decide (i < j))) := ⟨_, op_lt, opz_II fun _ _ _ _ _ => .bl _⟩
theorem q_le : QOp Γ X (compareOp .LtE) (zII fun i j => .bl (decide (i ≤ j))) := ⟨_, op_le, opz_II fun _ _ _ _ _ => .bl _⟩
theorem q_gt : QOp Γ X (compareOp .Gt) (zII fun i j => .bl (decide (j < i))) := ⟨_, op_gt, opz_II fun _ _ _ _ _ => .bl _⟩
def scalZ : Dv → Dv → Option Bool
  | .int i, .int j => some (decide (i = j))
  | .bl i, .bl j => some (decide (i = j))
  | .str i, .str j => some (decide (i = j))
  | .non, .non => some true
  | .non, .int _ => some false | .int _, .non => some false | .non, .bl _ => some false | .bl _, .non => some false | .non, .str _ => some false | .str _, .non => some false
  | .int _, .str _ => some false | .str _, .int _ => some false | .bl _, .str _ => some false | .str _, .bl _ => some false
  | _, _ => none
def zEq : ZR2 := fun d e M Q => match scalZ d e with | some b => Q (.bl b) M | none => False
def zNe : ZR2 := fun d e M Q => match scalZ d e with | some b => Q (.bl (!b)) M | none => False
theorem scalZ_ok {M : Mh} {H : Hp} {x y : V} {d e : Dv} {b : Bool} (rx : Rz β M H x d) (ry : Rz β M H y e) (h : scalZ d e = some b) : scal x y = true ∧ decide (x = y) = b := by
  unfold scalZ at h
  split at h <;> cases h <;> (cases rx; cases ry; refine ⟨rfl, ?_⟩; simp)
theorem q_eq : QOp Γ X (compareOp .Eq) zEq := ⟨_, op_eq, fun β x y d e M H Q Q' _ _ _ m rx ry z q => by
  unfold zEq at z
  split at z
  · rename_i b hb
    obtain ⟨h1, h2⟩ := scalZ_ok rx ry hb
    exact ⟨h1, by rw [h2]; exact q _ _ _ _ (.refl m) (.bl _) z⟩
  · exact z.elim⟩
theorem q_ne : QOp Γ X (compareOp .NotEq) zNe := ⟨_, op_ne, fun β x y d e M H Q Q' _ _ _ m rx ry z q => by
  unfold zNe at z
  split at z
  · rename_i b hb
    obtain ⟨h1, h2⟩ := scalZ_ok rx ry hb
    exact ⟨h1, by rw [h2]; exact q _ _ _ _ (.refl m) (.bl _) z⟩
  · exact z.elim⟩
def zIs (neg : Bool) : ZR2 := fun d e M Q => match d, e with | .bl a, .bl b => Q (.bl (if neg then !(a == b) else a == b)) M | _, _ => False
def isNonD : Dv → Option Bool
  | .non => some true
  | .raw _ => none
  | _ => some false
def zIsN (neg : Bool) : ZR2 := fun d e M Q => match e, isNonD d with | .non, some b => Q (.bl (if neg then !b else b)) M | _, _ => False
def zSS (C : Str → Str → Prop) (f : Str → Str → Dv) : ZR2 := fun d e M Q => match d, e with | .str i, .str j => C i j ∧ Q (f i j) M | _, _ => False
theorem q_add_str : QOp Γ X (binaryOp .Add) (zSS (fun i j => i.length + j.length ≤ sizeLine) fun i j => .str (i ++ j)) := ⟨_, op_add_str, fun β x y d e M H Q Q' _ _ _ m rx ry z q => by
  unfold zSS at z
  split at z
  · exact ⟨_, _, rz_str_of rx, rz_str_of ry, z.1, q _ _ _ _ (.refl m) (.str _) z.2⟩
  · exact z.elim⟩
def inStr (i j : Str) : Bool := !(Builtin.Str.occurrences j i 0 j.length 1).isEmpty
theorem q_in_str : QOp Γ X (compareOp .In) (zSS (fun _ _ => True) fun i j => .bl (inStr i j)) := ⟨_, op_in_str, fun β x y d e M H Q Q' _ _ _ m rx ry z q => by
  unfold zSS at z
  split at z
  · exact ⟨_, _, rz_str_of rx, rz_str_of ry, q _ _ _ _ (.refl m) (.bl _) z.2⟩
  · exact z.elim⟩
mutual
def dtOf : Dv → Option Dt
  | .int i => some (.int i)
  | .bl b => some (.bl b)
  | .non => some .non
  | .str z => some (.str z)
  | .tup ds => (dtsOf ds).map .tup
  | .lst ds => (dtsOf ds).map .lst
  | _ => none
def dtsOf : List Dv → Option (List Dt)
  | [] => some []
  | d :: ds => match dtOf d, dtsOf ds with | some a, some as => some (a :: as) | _, _ => none
end
theorem dtsOf_at : ∀ {ds : List Dv} {ts : List Dt}, dtsOf ds = some ts → ds.length = ts.length ∧ ∀ (i : Nat) (d : Dv) (t : Dt), ds[i]? = some d → ts[i]? = some t → dtOf d = some t
  | [], ts, h => by simp only [dtsOf, Option.some.injEq] at h; subst h; exact ⟨rfl, fun i d t a => by simp at a⟩
  | d :: ds, ts, h => by
    simp only [dtsOf] at h
    split at h
    · rename_i a as h1 h2
      cases h
      obtain ⟨hl, q⟩ := dtsOf_at h2
      refine ⟨by simp [hl], fun i e t x y => ?_⟩
      cases i with
      | zero => simp at x y; subst x y; exact h1
      | succ i => rw [List.getElem?_cons_succ] at x y; exact q i e t x y
    · cases h
theorem rdt_of {M : Mh} {H : Hp} {v : V} {d : Dv} (h : Rz β M H v d) : ∀ {t : Dt}, dtOf d = some t → Rdt H v t := by
  induction h with
  | int i => intro t e; simp only [dtOf, Option.some.injEq] at e; subst e; exact .int i
  | bl b => intro t e; simp only [dtOf, Option.some.injEq] at e; subst e; exact .bl b
  | non => intro t e; simp only [dtOf, Option.some.injEq] at e; subst e; exact .non
  | str z => intro t e; simp only [dtOf, Option.some.injEq] at e; subst e; exact .str z
  | tup m e hl h ih =>
    intro t q
    simp only [dtOf, Option.map_eq_some_iff] at q
    obtain ⟨ts, q, rfl⟩ := q
    obtain ⟨l2, at2⟩ := dtsOf_at q
    refine .tup e (hl.trans l2) fun i x d hx hd => ?_
    have hi := (List.getElem?_eq_some_iff.mp hd).1
    have := List.getElem?_eq_getElem (l := _) (i := i) (show i < _ from l2 ▸ hi)
    exact ih i x _ hx this (at2 i _ _ this hd)
  | lst m e hl h ih =>
    intro t q
    simp only [dtOf, Option.map_eq_some_iff] at q
    obtain ⟨ts, q, rfl⟩ := q
    obtain ⟨l2, at2⟩ := dtsOf_at q
    refine .lst e (hl.trans l2) fun i x d hx hd => ?_
    have hi := (List.getElem?_eq_some_iff.mp hd).1
    have := List.getElem?_eq_getElem (l := _) (i := i) (show i < _ from l2 ▸ hi)
    exact ih i x _ hx this (at2 i _ _ this hd)
  | set m e => intro t q; simp [dtOf] at q
  | ptr m => intro t q; simp [dtOf] at q
  | exc m e => intro t q; simp [dtOf] at q
  | scr m e => intro t q; simp [dtOf] at q
  | scrL m e => intro t q; simp [dtOf] at q
  | scrK e => intro t q; simp [dtOf] at q
  | dk m e hk hl h ih => intro t q; simp [dtOf] at q
  | dt m e hk hl h ih => intro t q; simp [dtOf] at q
  | clo m e m2 e2 hl h ih => intro t q; simp [dtOf] at q
  | raw v => intro t q; simp [dtOf] at q

def now (M : Mh) : Dv → Dv
  | .ptr a => match M a with | some (.lst ds) => .lst ds | _ => .ptr a
  | d => d
theorem now_rdt {M : Mh} {H : Hp} {v : V} {d : Dv} (m : Mz β M H) (h : Rz β M H v d) {t : Dt} (e : dtOf (now M d) = some t) : Rdt H v t := by
  cases d with
  | ptr a =>
    simp only [now] at e
    obtain ⟨rfl, hs⟩ := rz_ptr_of h
    cases q : M a with
    | none => rw [q] at hs; cases hs
    | some o =>
      rw [q] at e
      cases o with
      | bag => simp [dtOf] at e
      | dk ks es => simp [dtOf] at e
      | dt ks es => simp [dtOf] at e
      | lst ds =>
        obtain ⟨vs, hv, rs⟩ := m.obj a _ q
        simp only [dtOf, Option.map_eq_some_iff] at e
        obtain ⟨ts, q, rfl⟩ := e
        obtain ⟨l2, at2⟩ := dtsOf_at q
        refine .lst hv (rs.len.trans l2) fun i x d hx hd => ?_
        have hi := (List.getElem?_eq_some_iff.mp hd).1
        have := List.getElem?_eq_getElem (l := _) (i := i) (show i < _ from l2 ▸ hi)
        exact rdt_of (rs.at' i x _ hx this) (at2 i _ _ this hd)
  | _ => exact rdt_of h e
def zEqD (neg : Bool) : ZR2 := fun d e M Q => match dtOf (now M d), dtOf (now M e) with | some a, some b => dpD a ≤ 60 ∧ Q (.bl (if neg then !eqD a b else eqD a b)) M | _, _ => False
theorem opz_eqD {neg : Bool} : OpZ Γ (rEqD neg) (zEqD neg) := fun β x y d e M H Q Q' _ _ _ m rx ry z q => by
  unfold zEqD at z
  split at z
  · rename_i a b h1 h2
    exact ⟨a, b, now_rdt m rx h1, now_rdt m ry h2, z.1, q _ _ _ _ (.refl m) (.bl _) z.2⟩
  · exact z.elim
theorem q_neD (hu : X.A.units + 64 < cLine) : QOp Γ X (compareOp .NotEq) (zEqD true) := ⟨_, op_neD hu, opz_eqD⟩

def itemsM (M : Mh) : Dv → Option (List Dv)
  | .tup ds => some ds
  | .lst ds => some ds
  | .ptr a => match M a with | some (.lst ds) => some ds | _ => none
  | _ => none
theorem items_ok {M : Mh} {H : Hp} {x : V} {d : Dv} {ds : List Dv} (m : Mz β M H) (r : Rz β M H x d) (h : itemsM M d = some ds) : ∃ a vs, x = .ref a ∧ (H a = some (.lst vs) ∨ H a = some (.tup vs)) ∧ Rzs β M H vs ds := by
  cases d with
  | tup es => cases h; obtain ⟨a, vs, e, _, h, rs⟩ := rz_tup_of r; exact ⟨a, vs, e, .inr h, rs⟩
  | lst es => cases h; obtain ⟨a, vs, e, _, h, rs⟩ := rz_lst_of r; exact ⟨a, vs, e, .inl h, rs⟩
  | ptr a =>
    obtain ⟨rfl, hs⟩ := rz_ptr_of r
    simp only [itemsM] at h
    split at h
    · rename_i es q
      cases h
      obtain ⟨vs, hv, rs⟩ := m.obj a _ q
      exact ⟨a, vs, rfl, .inl hv, rs⟩
    · cases h
  | _ => cases h
theorem atI_rzs {M : Mh} {H : Hp} {vs : List V} {ds : List Dv} (rs : Rzs β M H vs ds) {i : Int} {d : Dv} (h : atI ds i = some d) : ∃ v, atI vs i = some v ∧ Rz β M H v d := by
  unfold atI at h ⊢
  rw [rs.len]
  cases e : ixN ds.length i with
  | none => rw [e] at h; cases h
  | some j =>
    rw [e] at h
    obtain ⟨v, hv, r⟩ := rs.get (i := j) (d := d) h
    exact ⟨v, hv, r⟩
def IxZ (Γ : Gz) (X : Cx) (z : ZR2) : Prop := ∃ r, IxR X r ∧ OpZ Γ r z
def zIx : ZR2 := fun d e M Q => match e with
  | .int i => (match d with
    | .str z => z.length ≤ sizeLine ∧ (match atI z.cps.toList i with | some c => Q (.str ⟨#[c]⟩) M | none => False)
    | _ => match itemsM M d with | some ds => (match atI ds i with | some r => Q r M | none => False) | none => False)
  | _ => False
theorem q_ix (hK : X.K = K) : IxZ Γ X zIx := ⟨_, ix_seqK hK, fun β x y d e M H Q Q' _ _ _ m rx ry z q => by
  unfold zIx at z
  split at z
  · rename_i i
    have hy := rz_int_of ry
    split at z
    · rename_i s
      obtain ⟨hz, z⟩ := z
      split at z
      · rename_i c hc
        exact .inr (.inr ⟨s, i, c, rz_str_of rx, hy, hz, hc, q _ _ _ _ (.refl m) (.str _) z⟩)
      · exact z.elim
    · split at z
      · rename_i ds hds
        obtain ⟨a, vs, rfl, ha, rs⟩ := items_ok m rx hds
        split at z
        · rename_i r hr
          obtain ⟨v, hv, rv⟩ := atI_rzs rs hr
          have z' := q _ _ _ _ (.refl m) rv z
          rcases ha with ha | ha
          · exact .inl ⟨a, vs, i, v, rfl, hy, SqL.of ha, hv, z'⟩
          · exact .inr (.inl ⟨a, vs, i, v, rfl, hy, SqT.of ha, hv, z'⟩)
        · exact z.elim
      · exact z.elim
  · exact z.elim⟩
theorem qe_ix {a b : Expr} {pa pb : ZTE} {z : ZR2} {pos : Pos} (hr : IxZ Γ X z) (ha : QE Γ X a pa) (hb : QE Γ X b pb) (hs : PlainIx b) : QE Γ X (.Subscript a b pos) (zOp z pa pb) := by
  obtain ⟨r, h1, h2⟩ := hr
  exact (pe_ix h1 ha hb hs).imp fun σ H Q h => l_op h2 h

def cutD (xs : List Dv) (lo hi : Option Int) : List Dv := (xs.drop (HT.sIx xs.length 0 lo)).take (HT.sIx xs.length xs.length hi - HT.sIx xs.length 0 lo)
abbrev ZTO := ZEnv → Mh → (Option Int → Mh → Prop) → Prop
def lO (Γ : Gz) (p : ZTO) : TO := fun σ H Q => ∃ (β : Bz) (ρ : ZEnv) (M : Mh) (Q' : Option Int → Mh → Prop), Zr Γ β M ρ σ H ∧ p ρ M Q' ∧ ∀ o M' H', Ex β M H M' H' → Q' o M' → Q o H'
def zoNone : ZTO := fun _ M Q => Q none M
def zoSome (p : ZTE) : ZTO := fun ρ M Q => p ρ M fun d M1 => match d with | .int i => Q (some i) M1 | _ => False
theorem PO.imp {e : Option Expr} {t t' : TO} (h : PO X e t) (i : ∀ σ H Q, t' σ H Q → t σ H Q) : PO X e t' := fun pins s σ H Q I q => h pins s σ H Q I (i _ _ _ q)
theorem qo_none : PO X none (lO Γ zoNone) := PO.imp po_none fun σ H Q ⟨β, ρ, M, Q', zr, h, q⟩ => q _ _ _ (.refl zr.mz) h
theorem qo_some {e : Expr} {p : ZTE} (h : QE Γ X e p) : PO X (some e) (lO Γ (zoSome p)) := PO.imp (po_some h) fun σ H Q ⟨β, ρ, M, Q', zr, h, q⟩ => ⟨β, ρ, M, _, zr, h, fun d M1 v H1 x1 r1 h1 => by
  revert h1
  split
  · intro h1
    exact ⟨_, rz_int_of r1, q _ _ _ x1 h1⟩
  · exact fun z => z.elim⟩
abbrev ZRS := Dv → Option Int → Option Int → Mh → ZK → Prop
def SlZ (Γ : Gz) (X : Cx) (z : ZRS) : Prop := ∃ r, SlR X r ∧ ∀ (β : Bz) x d lo hi M H Q Q', β.P = Γ.P → β.w = Γ.w → β.K = Γ.K → Mz β M H → Rz β M H x d → z d lo hi M Q' → (∀ d' M' v H', Ex β M H M' H' → Rz β M' H' v d' → Q' d' M' → Q v H') → r x lo hi H Q
def zSl (z : ZRS) (p : ZTE) (l h : ZTO) : ZTE := fun ρ M Q => p ρ M fun d M1 => l ρ M1 fun lo M2 => h ρ M2 fun hi M3 => z d lo hi M3 Q
theorem qe_slice {z : ZRS} {e : Expr} {p : ZTE} {lo hi : Option Expr} {l h : ZTO} {p2 pos : Pos} (hr : SlZ Γ X z) (he : QE Γ X e p) (hl : PO X lo (lO Γ l)) (hu : PO X hi (lO Γ h)) : QE Γ X (.Subscript e (.Slice lo hi none p2) pos) (zSl z p l h) := by
  obtain ⟨r, h1, h2⟩ := hr
  exact (pe_slice h1 he hl hu).imp fun σ H Q ⟨β, ρ, M, Q', zr, h, q⟩ => ⟨β, ρ, M, _, zr, h, fun d M1 v H1 x1 r1 h1 => ⟨β, ρ, M1, _, zr.step x1, h1, fun o M2 H2 x2 h3 => ⟨β, ρ, M2, _, (zr.step x1).step x2, h3, fun o2 M3 H3 x3 h4 =>
    h2 β v d o o2 M3 H3 _ _ zr.eP zr.ew zr.eK x3.mz ((r1.ex x2).ex x3) h4 fun d' M' v' H' x4 r4 q4 => q _ _ _ _ (x1.trans (x2.trans (x3.trans x4))) r4 q4⟩⟩⟩
def zSlT : ZRS := fun d lo hi M Q => match d with | .tup ds => Q (.tup (cutD ds lo hi)) M | _ => False
def zSlS : ZRS := fun d lo hi M Q => match d with | .str s => s.length ≤ sizeLine ∧ Q (.str (Txt.slice s lo hi)) M | _ => False
theorem q_slS : SlZ Γ X zSlS := ⟨_, sl_str, fun β x d lo hi M H Q Q' _ _ _ m rx z q => by
  unfold zSlS at z
  split at z
  · exact ⟨_, rz_str_of rx, z.1, q _ _ _ _ (.refl m) (.str _) z.2⟩
  · exact z.elim⟩
def zSlL : ZRS := fun d lo hi M Q => match d with | .tup _ => False | _ => match itemsM M d with | some ds => Q (.lst (cutD ds lo hi)) M | none => False
def zCatT : ZR2 := fun d e M Q => match d, e with | .tup xs, .tup ys => xs.length + ys.length ≤ sizeLine ∧ Q (.tup (xs ++ ys)) M | _, _ => False
end
end L2

set_option Elab.async false
set_option maxRecDepth 100000
set_option maxHeartbeats 4000000
namespace L2
open PySem PySem.Spec PyProof.Rows
section
variable {X : Cx} {Γ : Gz} {β : Bz} {K : PySem.W.Frag}

section
variable {x : Str} {p pos : Pos} {e : Expr} {es : List Expr} {za : ZTA} {id T : String} {z : ZRs}
theorem qe_callB (hc : QCall Γ X (.builtin id) z) (hg : Gl X x) (hm : X.mg x = none) (hv : bootBuiltins x = some (.builtin id)) (ha : QA Γ X (e :: es) za) (hn : x ≠ "__name__" := by decide) (hdb : (x == ("__debug__" : Str)) = false := by decide)
    (he : starEach (e :: es) X.env = (false, eval e X.env) :: starEach es X.env := by rfl) (hpl : (backTo pos (starEach es X.env)).any (·.1) = false := by rfl) : QE Γ X (.Call (.Name x p) (e :: es) [] pos) (zCB z za) := by
  obtain ⟨r, h1, h2⟩ := hc
  exact (pe_callB h1 hg hm hv ha hn hdb he hpl).imp fun σ H Q h => l_CB h2 h
theorem qe_callTy (hc : QCall Γ X (.type T) z) (hg : Gl X x) (hm : X.mg x = none) (hv : bootBuiltins x = some (.type T)) (ha : QA Γ X (e :: es) za) (hn : x ≠ "__name__" := by decide) (hdb : (x == ("__debug__" : Str)) = false := by decide)
    (he : starEach (e :: es) X.env = (false, eval e X.env) :: starEach es X.env := by rfl) (hpl : (backTo pos (starEach es X.env)).any (·.1) = false := by rfl) : QE Γ X (.Call (.Name x p) (e :: es) [] pos) (zCB z za) := by
  obtain ⟨r, h1, h2⟩ := hc
  exact (pe_callTy h1 hg hm hv ha hn hdb he hpl).imp fun σ H Q h => l_CB h2 h
end
def z1 (f : Dv → Mh → ZK → Prop) : ZRs := fun ds M Q => match ds with | [d] => f d M Q | _ => False
def zLenD (d : Dv) (M : Mh) (Q : ZK) : Prop := match d with
  | .str s => s.length ≤ sizeLine ∧ Q (.int s.length) M
  | .scr ns => Q (.int ns.length) M
  | _ => match itemsM M d with | some ds => Q (.int ds.length) M | none => False
theorem q_len (hK : X.K = K) (hG : K = Γ.K) : QCall Γ X (.builtin "len") (z1 zLenD) := ⟨_, call_lenK hK, fun β xs ds M H Q Q' _ _ eK m rs z q => by
  rw [← hG] at eK
  unfold z1 at z
  split at z
  · rename_i d
    obtain ⟨x, rfl, r⟩ := rzs_one rs
    unfold zLenD at z
    split at z
    · rename_i s
      have e := rz_str_of r
      subst e
      exact ⟨_, _, rfl, ⟨z.1, rfl⟩, q _ _ _ _ (.refl m) (.int _) z.2⟩
    · rename_i ns
      obtain ⟨a, rfl, h⟩ := rz_scr_of r
      rw [eK] at h
      exact ⟨_, ns.length, rfl, .inl ⟨_, h, by simp⟩, q _ _ _ _ (.refl m) (.int _) z⟩
    · split at z
      · rename_i ds hds
        obtain ⟨a, vs, rfl, ha, rs2⟩ := items_ok m r hds
        have q' := q _ _ (.int ds.length) _ (.refl m) (.int _) z
        rcases ha with ha | ha
        · exact ⟨_, ds.length, rfl, .inl ⟨vs, SqL.of ha, rs2.len.symm⟩, q'⟩
        · exact ⟨_, ds.length, rfl, .inr ⟨vs, SqT.of ha, rs2.len.symm⟩, q'⟩
      · exact z.elim
  · exact z.elim⟩
def z2I (f : Int → Int → Int) : ZRs := fun ds M Q => match ds with | [.int i, .int j] => Q (.int (f i j)) M | _ => False
theorem q_max2 (hc : X.calm = true) : QCall Γ X (.builtin "max") (z2I fun i j => if j > i then j else i) := ⟨_, call_max2 hc, fun β xs ds M H Q Q' _ _ _ m rs z q => by
  unfold z2I at z
  split at z
  · obtain ⟨x, y, rfl, r, r'⟩ := rzs_two rs
    rw [rz_int_of r, rz_int_of r']
    exact ⟨_, _, rfl, q _ _ _ _ (.refl m) (.int _) z⟩
  · exact z.elim⟩
theorem q_min2 (hc : X.calm = true) : QCall Γ X (.builtin "min") (z2I fun i j => if j < i then j else i) := ⟨_, call_min2 hc, fun β xs ds M H Q Q' _ _ _ m rs z q => by
  unfold z2I at z
  split at z
  · obtain ⟨x, y, rfl, r, r'⟩ := rzs_two rs
    rw [rz_int_of r, rz_int_of r']
    exact ⟨_, _, rfl, q _ _ _ _ (.refl m) (.int _) z⟩
  · exact z.elim⟩
def zAbs (d : Dv) (M : Mh) (Q : ZK) : Prop := match d with | .int i => Q (.int (if i < 0 then -i else i)) M | _ => False
def zDivmod : ZRs := fun ds M Q => match ds with | [.int i, .int j] => CDiv i j ∧ Q (.tup [.int (i / j), .int (i % j)]) M | _ => False
def zInt (d : Dv) (M : Mh) (Q : ZK) : Prop := match d with | .int i => Q (.int i) M | .bl k => Q (.int (if k then 1 else 0)) M | _ => False
def zList (d : Dv) (M : Mh) (Q : ZK) : Prop := match itemsM M d with | some ds => Q (.lst ds) M | none => False
def zListP (d : Dv) (M : Mh) (Q : ZK) : Prop := match itemsM M d with | some ds => ∀ a, M a = none → Q (.ptr a) (updM M a (.lst ds)) | none => False
def zTuple (d : Dv) (M : Mh) (Q : ZK) : Prop := match itemsM M d with | some ds => Q (.tup ds) M | none => False
theorem q_tuple (hK : X.K = K) : QCall Γ X (.type "tuple") (z1 zTuple) := ⟨_, call_tuple_ofK hK, fun β xs ds M H Q Q' _ _ _ m rs z q => by
  unfold z1 at z
  split at z
  · rename_i d
    obtain ⟨x, rfl, r⟩ := rzs_one rs
    unfold zTuple at z
    split at z
    · rename_i ds hds
      obtain ⟨a, vs, rfl, ha, rs2⟩ := items_ok m r hds
      refine ⟨a, vs, rfl, ?_⟩
      rcases ha with ha | ha
      · refine .inl ⟨SqL.of ha, fun l hl => ?_⟩
        have x2 := Ex.lay m hl (.tup vs)
        exact q _ _ _ _ x2 (rz_tup (m.fz hl) upd_same (rs2.ex x2)) z
      · refine .inr ⟨SqT.of ha, ?_⟩
        have f : Fz β M a := by
          cases d with
          | tup es => obtain ⟨b, us, e, f, _⟩ := rz_tup_of r; cases e; exact f
          | lst es => obtain ⟨b, us, e, f, _⟩ := rz_lst_of r; cases e; exact f
          | ptr b =>
            obtain ⟨e, hs⟩ := rz_ptr_of r
            cases e
            cases q2 : M a with
            | none => rw [q2] at hs; cases hs
            | some o => have := m.notown ha rfl; rw [q2] at this; cases this
          | _ => cases hds
        exact q _ _ _ _ (.refl m) (rz_tup f ha rs2) z
    · exact z.elim
  · exact z.elim⟩

def intsD : List Dv → Option (List Int)
  | [] => some []
  | .int i :: ds => (intsD ds).map (i :: ·)
  | _ :: _ => none
theorem ints_rzs {M : Mh} {H : Hp} : ∀ {ns : List Int}, Rzs β M H (ns.map V.int) (ns.map Dv.int)
  | [] => .nil
  | n :: ns => .cons (.int _) ints_rzs
def intsM (M : Mh) (d : Dv) : Option (List Int) := match d with | .set ns => some ns | _ => (itemsM M d).bind intsD
def zSorted (d : Dv) (M : Mh) (Q : ZK) : Prop := match intsM M d with | some ns => ns.length < 64 ∧ Q (.lst ((sortI ns).map .int)) M | none => False
def zSet (d : Dv) (M : Mh) (Q : ZK) : Prop := match (itemsM M d).bind intsD with | some ns => ns.length + 1 < scanBound ∧ Q (.set (dedI ns)) M | none => False
def zLenS (d : Dv) (M : Mh) (Q : ZK) : Prop := match d with | .set ns => Q (.int ns.length) M | _ => False
def isD (T : String) (M : Mh) (d : Dv) : Option Bool := match d with
  | .int _ => some (T == "int") | .bl _ => some (T == "int" || T == "bool") | .non => some false | .str _ => some (T == "str") | .tup _ => some (T == "tuple") | .lst _ => some (T == "list") | .ptr a => (match M a with | some (.lst _) => some (T == "list") | some .bag => some (T == "list") | some _ => some false | none => none) | _ => none
def tyNames : List String := ["int", "bool", "str", "tuple", "list"]
def zIsInst : ZRs := fun ds M Q => match ds with | [d, .raw (.ty T)] => T ∈ tyNames ∧ (match isD T M d with | some b => Q (.bl b) M | none => False) | _ => False
theorem isD_ok {K : PySem.W.Frag} {M : Mh} {H : Hp} {x : V} {d : Dv} {T : String} {b : Bool} (m : Mz β M H) (hT : T ∈ tyNames) (r : Rz β M H x d) (h : isD T M d = some b) : ∃ t, TyOf K H x t ∧ PySem.W.kitOne K t (.type T) = some b := by
  have hT' : T = "int" ∨ T = "bool" ∨ T = "str" ∨ T = "tuple" ∨ T = "list" := by simpa [tyNames] using hT
  cases r with
  | int i => cases h; exact ⟨_, .int i, by rcases hT' with rfl | rfl | rfl | rfl | rfl <;> rfl⟩
  | bl i => cases h; exact ⟨_, .bl i, by rcases hT' with rfl | rfl | rfl | rfl | rfl <;> rfl⟩
  | non => cases h; exact ⟨_, .non, by rcases hT' with rfl | rfl | rfl | rfl | rfl <;> rfl⟩
  | str i => cases h; exact ⟨_, .str i, by rcases hT' with rfl | rfl | rfl | rfl | rfl <;> rfl⟩
  | tup f e hl q => cases h; exact ⟨_, .tup e, by rcases hT' with rfl | rfl | rfl | rfl | rfl <;> rfl⟩
  | lst f e hl q => cases h; exact ⟨_, .lst e, by rcases hT' with rfl | rfl | rfl | rfl | rfl <;> rfl⟩
  | ptr hs =>
    rename_i a
    cases q2 : M a with
    | none => rw [q2] at hs; cases hs
    | some o =>
      simp only [isD, q2] at h
      have q := m.obj a o q2
      cases o with
      | lst ds => obtain ⟨vs, e, _⟩ := q; cases h; exact ⟨_, .lst e, by rcases hT' with rfl | rfl | rfl | rfl | rfl <;> rfl⟩
      | bag => obtain ⟨_, _, e, _⟩ := q; cases h; exact ⟨_, .lst e, by rcases hT' with rfl | rfl | rfl | rfl | rfl <;> rfl⟩
      | dk ks ds => obtain ⟨vs, e, _⟩ := q; cases h; exact ⟨_, .dK e, by rcases hT' with rfl | rfl | rfl | rfl | rfl <;> rfl⟩
      | dt ks ds => obtain ⟨vs, e, _⟩ := q; cases h; exact ⟨_, .dT e, by rcases hT' with rfl | rfl | rfl | rfl | rfl <;> rfl⟩
  | set f e => cases h
  | exc f e => cases h
  | scr f e => cases h
  | scrL f e => cases h
  | scrK e => cases h
  | raw v => cases h
  | dk f e _ _ _ => cases h
  | dt f e _ _ _ => cases h
  | clo _ _ _ _ _ _ => cases h
theorem q_isinst (hK : X.K = K) : QCall Γ X (.builtin "isinstance") zIsInst := ⟨_, call_isinstK hK, fun β xs ds M H Q Q' _ _ _ m rs z q => by
  unfold zIsInst at z
  split at z
  · obtain ⟨x, y, rfl, r, r'⟩ := rzs_two rs
    rw [rz_raw_of r']
    obtain ⟨hT, z⟩ := z
    split at z
    · rename_i b hb
      obtain ⟨t, ht, hk⟩ := isD_ok (K := K) m hT r hb
      exact ⟨_, _, t, b, rfl, ht, hk, q _ _ _ _ (.refl m) (.bl _) z⟩
    · exact z.elim
  · exact z.elim⟩

abbrev ZRM := Dv → List Dv → Mh → ZK → Prop
def MtZ (Γ : Gz) (X : Cx) (T id : String) (K : PySem.W.Frag) (z : ZRM) : Prop := ∃ r, MtR X id r ∧ ∀ (β : Bz) x xs d ds M H Q Q', β.P = Γ.P → β.w = Γ.w → β.K = Γ.K → Mz β M H → Rz β M H x d → Rzs β M H xs ds → z d ds M Q' → (∀ d' M' v H', Ex β M H M' H' → Rz β M' H' v d' → Q' d' M' → Q v H') → r x xs H Q
def tyZ (T : String) (M : Mh) : Dv → Prop
  | .ptr a => match M a with | some (.lst _) => T = "list" | some .bag => T = "list" | some (.dk _ _) => T = "dict" | some (.dt _ _) => T = "dict" | none => False
  | .lst _ => T = "list"
  | .tup _ => T = "tuple"
  | .str _ => T = "str"
  | _ => False
theorem tyZ_ok {M : Mh} {H : Hp} {x : V} {d : Dv} {T : String} (m : Mz β M H) (r : Rz β M H x d) (h : tyZ T M d) : tyV K T x H := by
  cases r with
  | str => exact h
  | lst f e _ _ => exact .inl ⟨h, _, SqL.of e⟩
  | tup f e _ _ => exact .inr (.inl ⟨h, .inr ⟨_, e⟩⟩)
  | ptr hs =>
    rename_i a
    cases q2 : M a with
    | none => rw [q2] at hs; cases hs
    | some o =>
      simp only [tyZ, q2] at h
      have q := m.obj a o q2
      cases o with
      | lst ds => obtain ⟨vs, e, _⟩ := q; exact .inl ⟨h, _, SqL.of e⟩
      | bag => obtain ⟨_, _, e, _⟩ := q; exact .inl ⟨h, _, SqL.of e⟩
      | dk ks ds => obtain ⟨vs, e, _⟩ := q; exact .inr (.inr (.inl ⟨h, .inl ⟨_, e⟩⟩))
      | dt ks ds => obtain ⟨vs, e, _⟩ := q; exact .inr (.inr (.inl ⟨h, .inr ⟨_, e⟩⟩))
  | _ => exact h.elim
def zBM (T : String) (z : ZRM) (po : ZTE) (pa : ZTA) : ZTE := fun ρ M Q => po ρ M fun d M1 => tyZ T M1 d ∧ pa ρ M1 fun ds M2 => z d ds M2 Q
section
variable {o e : Expr} {es : List Expr} {po : ZTE} {pa : ZTA} {name : Str} {apos cpos : Pos} {T id : String} {z : ZRM}
theorem qe_bm (h : X.K = K) (pat : PlainAttrs T) (slot : Slot T name id) (hty : typeOf (.builtin id) = pure (.type "method_descriptor")) (hm : MtZ Γ X T id K z) (ho : QE Γ X o po) (ha : QA Γ X (e :: es) pa) (hbase : attributeBase o name X.env (eval o X.env) = eval o X.env := by rfl)
    (hfew : ((backTo cpos (starEach (e :: es) X.env)).all (fun x => !x.1) && (backToKw cpos (keywordEach [] X.env)).all (fun x => x.1.isSome)
      && decide ((e :: es).length + ([] : List Keyword).length + (if ([] : List Keyword).isEmpty then 0 else 1) < 30)) = true := by rfl)
    (hline : (apos.endLine == cpos.line) = true := by rfl) (hs : starEach (e :: es) X.env = (false, eval e X.env) :: starEach es X.env := by rfl) (hplain : (backTo cpos (starEach es X.env)).any (·.1) = false := by rfl) :
    QE Γ X (.Call (.Attribute o name apos) (e :: es) [] cpos) (zBM T z po pa) := by
  obtain ⟨r, h1, h2⟩ := hm
  exact (pe_bmK h pat slot hty h1 ho ha hbase hfew hline hs hplain).imp fun σ H Q ⟨β, ρ, M, Q', zr, h, q⟩ => ⟨β, ρ, M, _, zr, h, fun d M1 v H1 x1 r1 ⟨ht, h1⟩ => ⟨tyZ_ok x1.mz r1 ht, β, ρ, M1, _, zr.step x1, h1, fun ds M2 vs H2 x2 r2 h3 =>
    h2 β v vs d ds M2 H2 _ _ zr.eP zr.ew zr.eK x2.mz (r1.ex x2) r2 h3 fun d' M' v' H' x3 r3 q3 => q _ _ _ _ (x1.trans (x2.trans x3)) r3 q3⟩⟩
end
def zAppend : ZRM := fun d ds M Q => match d, ds with | .ptr a, [y] => (match M a with | some (.lst xs) => xs.length < sizeLine ∧ Q .non (updM M a (.lst (xs ++ [y]))) | _ => False) | _, _ => False
theorem q_append : MtZ Γ X "list" "list.append" K zAppend := ⟨_, mt_append, fun β x xs d ds M H Q Q' _ _ _ m r rs z q => by
  unfold zAppend at z
  split at z
  · rename_i a y
    split at z
    · rename_i es he
      obtain ⟨e, hs⟩ := rz_ptr_of r
      obtain ⟨v, e2, rv⟩ := rzs_one rs
      subst e e2
      obtain ⟨vs, hv, rs2⟩ := m.obj a _ he
      refine ⟨a, vs, v, rfl, rfl, hv, by rw [rs2.len]; exact z.1, ?_⟩
      exact q _ _ _ _ (Ex.own m (.inl hs) (rs2.snoc rv)) .non z.2
    · exact z.elim
  · exact z.elim⟩
def zExtend : ZRM := fun d ds M Q => match d, ds with | .ptr a, [y] => (match M a, itemsM M y with | some (.lst xs), some ys => (∀ t, y ≠ .tup t) ∧ xs.length + ys.length ≤ sizeLine ∧ Q .non (updM M a (.lst (xs ++ ys))) | _, _ => False) | _, _ => False
def zPop : ZRM := fun d ds M Q => match d, ds with | .ptr a, [] => (match M a with | some (.lst xs) => (match xs[xs.length - 1]? with | some y => Q y (updM M a (.lst xs.dropLast)) | none => False) | _ => False) | _, _ => False
theorem Rzs.dropLast {M : Mh} {H : Hp} {vs : List V} {ds : List Dv} (h : Rzs β M H vs ds) : Rzs β M H vs.dropLast ds.dropLast := by
  rw [List.dropLast_eq_take, List.dropLast_eq_take, h.len]
  exact h.take _
def zPopAt : ZRM := fun d ds M Q => match d, ds with | .ptr a, [.int i] => (match M a with | some (.lst xs) => -(2 ^ 63) ≤ i ∧ i < 2 ^ 63 ∧ (match seqIndex? i xs.length with | some k => (match xs[k]? with | some y => Q y (updM M a (.lst (xs.eraseIdx k))) | none => False) | none => False) | _ => False) | _, _ => False
theorem Rzs.eraseIdx {M : Mh} {H : Hp} {vs : List V} {ds : List Dv} (h : Rzs β M H vs ds) (k : Nat) : Rzs β M H (vs.eraseIdx k) (ds.eraseIdx k) := by
  rw [List.eraseIdx_eq_take_drop_succ, List.eraseIdx_eq_take_drop_succ]
  exact (h.take _).append (h.drop _)
def zIndexS : ZRM := fun d ds M Q => match d, ds with | .str a, [.str b] => (match Builtin.Str.occurrences a b 0 a.length 1 with | i :: _ => Q (.int (i : Nat)) M | [] => False) | _, _ => False
theorem q_indexS : MtZ Γ X "str" "str.index" K zIndexS := ⟨_, mt_index, fun β x xs d ds M H Q Q' _ _ _ m r rs z q => by
  unfold zIndexS at z
  split at z
  · split at z
    · rename_i i rest hi
      obtain ⟨v, e2, rv⟩ := rzs_one rs
      subst e2
      exact ⟨_, _, i, rest, rz_str_of r, by rw [rz_str_of rv], hi, q _ _ _ _ (.refl m) (.int _) z⟩
    · exact z.elim
  · exact z.elim⟩

def zSetI : Dv → Dv → Dv → Mh → (Mh → Prop) → Prop := fun o i v M N => match o, i with | .ptr a, .int k => (match M a with | some (.lst xs) => (match ixN xs.length k with | some j => N (updM M a (.lst (xs.set j v))) | none => False) | _ => False) | _, _ => False
def zgSub (po pi : ZTE) : ZTG := fun d ρ M N => po ρ M fun o M1 => pi ρ M1 fun i M2 => zSetI o i d M2 fun M3 => N ρ M3
end
end L2

set_option Elab.async false
set_option maxRecDepth 100000
set_option maxHeartbeats 4000000
namespace L2
open PySem PySem.Spec PySem.W PyProof.Rows

abbrev ZX := Addr → Mh → Prop
abbrev ZSp := List Dv → Mh → ZK → ZX → Prop
def spZ (P : Program) (w : World) (K : PySem.W.Frag) (tb : Tbs) (S : ZSp) : Sp := fun vs H Q E => ∃ (β : Bz) (ds : List Dv) (M : Mh) (Q' : ZK) (E' : ZX), β.P = P ∧ β.w = w ∧ β.K = K ∧ β.tb = tb ∧ Mz β M H ∧ Rzs β M H vs ds ∧ S ds M Q' E' ∧
  (∀ d M' v H', Ex β M H M' H' → Rz β M' H' v d → Q' d M' → Q v H') ∧ ∀ C M' H', Ex β M H M' H' → E' C M' → E (.ref C) none H'
theorem Rz.unpin {β : Bz} {M0 M : Mh} {H : Hp} (dom : ∀ a, (M0 a).isSome = true → (M a).isSome = true) {v : V} {d : Dv} (h : Rz β M H v d) : Pin M0 d → Rz β M0 H v d := by
  have ne : ∀ a, Fz β M a → Fz β M0 a := fun a m => ⟨(by
    cases e : M0 a with
    | none => rfl
    | some o => have := dom a (by rw [e]; rfl); rw [m.1] at this; cases this), m.2⟩
  induction h with
  | int i => exact fun _ => .int i
  | bl b => exact fun _ => .bl b
  | non => exact fun _ => .non
  | str z => exact fun _ => .str z
  | tup m e hl h ih =>
    intro p
    cases p with
    | tup p => exact .tup (ne _ m) e hl fun i v d a b => ih i v d a b (p d (List.mem_of_getElem? b))
  | lst m e hl h ih =>
    intro p
    cases p with
    | lst p => exact .lst (ne _ m) e hl fun i v d a b => ih i v d a b (p d (List.mem_of_getElem? b))
  | set m e => exact fun _ => .set (ne _ m) e
  | ptr m => intro p; cases p with | ptr p => exact .ptr p
  | exc m e => exact fun _ => .exc (ne _ m) e
  | scr m e => exact fun _ => .scr (ne _ m) e
  | scrL m e => exact fun _ => .scrL (ne _ m) e
  | scrK e => exact fun _ => .scrK e
  | dk m e hk hl h ih =>
    intro p
    cases p with
    | dk p => exact .dk (ne _ m) e hk hl fun i v d a b => ih i v d a b (p d (List.mem_of_getElem? b))
  | dt m e hk hl h ih =>
    intro p
    cases p with
    | dt p => exact .dt (ne _ m) e hk hl fun i v d a b => ih i v d a b (p d (List.mem_of_getElem? b))
  | clo m e m2 e2 hl h ih =>
    intro p
    cases p with
    | clo p => exact .clo (ne _ m) e (ne _ m2) e2 hl fun i v d a b => ih i v d a b (p d (List.mem_of_getElem? b))
  | raw v => exact fun _ => .raw v

inductive Rsv (M0 M : Mh) : Dv → Dv → Prop where
  | pin {d : Dv} (h : Pin M0 d) : Rsv M0 M d d
  | ptr {a : Addr} {ds ds' : List Dv} (h0 : M0 a = none) (h : M a = some (.lst ds)) (hl : ds.length = ds'.length) (r : ∀ (i : Nat) (d d' : Dv), ds[i]? = some d → ds'[i]? = some d' → Rsv M0 M d d') : Rsv M0 M (.ptr a) (.lst ds')
  | tup {ds ds' : List Dv} (hl : ds.length = ds'.length) (r : ∀ (i : Nat) (d d' : Dv), ds[i]? = some d → ds'[i]? = some d' → Rsv M0 M d d') : Rsv M0 M (.tup ds) (.tup ds')
  | dk {a : Addr} {ks : List Key} {ds ds' : List Dv} (h0 : M0 a = none) (h : M a = some (.dk ks ds)) (hl : ds.length = ds'.length) (r : ∀ (i : Nat) (d d' : Dv), ds[i]? = some d → ds'[i]? = some d' → Rsv M0 M d d') : Rsv M0 M (.ptr a) (.dk ks ds')
  | dt {a : Addr} {ks : List (List Key)} {ds ds' : List Dv} (h0 : M0 a = none) (h : M a = some (.dt ks ds)) (hl : ds.length = ds'.length) (r : ∀ (i : Nat) (d d' : Dv), ds[i]? = some d → ds'[i]? = some d' → Rsv M0 M d d') : Rsv M0 M (.ptr a) (.dt ks ds')
theorem Rsv.rz {β : Bz} {M0 M : Mh} {H : Hp} (mz : Mz β M H) (dom : ∀ a, (M0 a).isSome = true → (M a).isSome = true) {d d' : Dv} (h : Rsv M0 M d d') : ∀ {v : V}, Rz β M H v d → Rz β M0 H v d' := by
  induction h with
  | pin h => exact fun r => r.unpin dom h
  | ptr h0 h hl r ih =>
    intro v r
    obtain ⟨rfl, _⟩ := rz_ptr_of r
    obtain ⟨vs, hv, rs⟩ := mz.obj _ _ h
    refine .lst ⟨h0, mz.apart _ _ h⟩ hv (rs.len.trans hl) fun i v d a b => ?_
    obtain ⟨d0, q, rd⟩ := rs.get' a
    exact ih i d0 d q b rd
  | dk h0 h hl r ih =>
    intro v r
    obtain ⟨rfl, _⟩ := rz_ptr_of r
    obtain ⟨vs, hv, hk, rs⟩ := mz.obj _ _ h
    refine .dk ⟨h0, mz.apart _ _ h⟩ (.inl hv) hk (rs.len.trans hl) fun i v d a b => ?_
    obtain ⟨d0, q, rd⟩ := rs.get' a
    exact ih i d0 d q b rd
  | dt h0 h hl r ih =>
    intro v r
    obtain ⟨rfl, _⟩ := rz_ptr_of r
    obtain ⟨vs, hv, hk, rs⟩ := mz.obj _ _ h
    refine .dt ⟨h0, mz.apart _ _ h⟩ (.inl hv) hk (rs.len.trans hl) fun i v d a b => ?_
    obtain ⟨d0, q, rd⟩ := rs.get' a
    exact ih i d0 d q b rd
  | tup hl r ih =>
    intro v r
    obtain ⟨a, vs, rfl, f, hv, rs⟩ := rz_tup_of r
    refine .tup ⟨?_, f.2⟩ hv (rs.len.trans hl) fun i v d a b => ?_
    · cases e : M0 a with
      | none => rfl
      | some o => have := dom a (by rw [e]; rfl); rw [f.1] at this; cases this
    · obtain ⟨d0, q, rd⟩ := rs.get' a
      exact ih i d0 d q b rd

def zFin (M0 : Mh) (Q : ZK) : ZK := fun d M => Q d M ∨ ((∀ a o, M0 a = some o → M a = some o) ∧ ∃ d', Rsv M0 M d d' ∧ Q d' M0)
theorem zfin_ok {β : Bz} {M0 M : Mh} {H0 H : Hp} {Q' : ZK} {Q : VK} (m0 : Mz β M0 H0) (q : ∀ d M' v H', Ex β M0 H0 M' H' → Rz β M' H' v d → Q' d M' → Q v H') {d : Dv} {v : V} (x : Ex β M0 H0 M H) (r : Rz β M H v d) (h : zFin M0 Q' d M) : Q v H := by
  rcases h with h | ⟨same, d', rv, h⟩
  · exact q _ _ _ _ x r h
  · refine q d' M0 v H ⟨⟨x.keep, fun _ h => h, fun _ _ h _ => h⟩, fun a o e => ?_, x.mz.tabs, x.mz.hids, m0.apart, x.mz.lams⟩ (rv.rz x.mz x.dom r) h
    have z := x.mz.obj a o (same a o e)
    have z0 := m0.obj a o e
    cases o with
    | lst ds =>
      obtain ⟨vs, z, rs⟩ := z
      obtain ⟨vs0, _, rs0⟩ := z0
      refine ⟨vs, z, rs.len, fun i v d a b => (rs.at' i v d a b).unpin x.dom ?_⟩
      obtain ⟨v0, _, r0⟩ := rs0.get b
      exact r0.pin
    | dk ks ds =>
      obtain ⟨vs, z, hk, rs⟩ := z
      obtain ⟨vs0, _, _, rs0⟩ := z0
      refine ⟨vs, z, hk, rs.len, fun i v d a b => (rs.at' i v d a b).unpin x.dom ?_⟩
      obtain ⟨v0, _, r0⟩ := rs0.get b
      exact r0.pin
    | dt ks ds =>
      obtain ⟨vs, z, hk, rs⟩ := z
      obtain ⟨vs0, _, _, rs0⟩ := z0
      refine ⟨vs, z, hk, rs.len, fun i v d a b => (rs.at' i v d a b).unpin x.dom ?_⟩
      obtain ⟨v0, _, r0⟩ := rs0.get b
      exact r0.pin
    | bag => exact z
def zstart (N : List Str) (ds : List Dv) : ZEnv := ds.map some ++ List.replicate (N.length - ds.length) none
theorem zr_start {Γ : Gz} {N : List Str} {vs : List V} {ds : List Dv} (m : Mz Γ.toBz Γ.M0 Γ.H0) (rs : Rzs Γ.toBz Γ.M0 Γ.H0 vs ds) : Zr Γ Γ.toBz Γ.M0 (zstart N ds) (start N vs) Γ.H0 := ⟨rfl, rfl, rfl, rfl, fun _ h => h, m.wf, .refl, m, by simp [zstart, start, rs.len], fun i d e => by
  unfold zstart at e
  unfold start
  rw [List.getElem?_append] at e ⊢
  rw [List.length_map] at e ⊢
  rw [rs.len]
  split at e
  · rename_i hi
    rw [if_pos hi]
    rw [List.getElem?_map, Option.map_eq_some_iff] at e
    obtain ⟨d2, e, e2⟩ := e
    cases e2
    obtain ⟨v, hv, r⟩ := rs.get e
    exact ⟨v, by rw [List.getElem?_map, hv]; rfl, r⟩
  · rw [List.getElem?_replicate] at e
    split at e <;> cases e⟩
def zEndsOf (M0 : Mh) (Q : ZK) : ZEnds := { nx := fun _ M => zFin M0 Q .non M, rt := zFin M0 Q }

def XR (Γ : Gz) (E' : ZX) (E : XK) : Prop := ∀ C M' H', Ex Γ.toBz Γ.M0 Γ.H0 M' H' → E' C M' → E (.ref C) none H'
section
variable {P : Program} {w : World} {K : PySem.W.Frag} {mg : Str → Option Value} {base : Heap} {tb : Tbs} {x : Str} {st : Stmt} {f : Addr} {fd : FuncData} {N ps : List Str} {k : Nat} {S : ZSp}
theorem spZ_len (len : ∀ ds M Q E, S ds M Q E → ds.length = ps.length) : ∀ vs H Q E, spZ P w K tb S vs H Q E → vs.length = ps.length := fun vs H Q E ⟨β, ds, M, Q', E', _, _, _, _, m, rs, s, _⟩ => rs.len.trans (len _ _ _ _ s)

theorem zdef (D : Df K mg x st ps f fd) (sc : FnScope N ps (defScope st)) (len : ∀ ds M Q E, S ds M Q E → ds.length = ps.length)
    (body : ∀ (A : Around) (outer : List Env) (s : Shared) (E : XK) (Γ : Gz) (ds : List Dv) (Q' : ZK) (E' : ZX), P = Γ.P → w = Γ.w → K = Γ.K → tb = Γ.tb → Room k (A.deeper (envOfC x (defScope st) s.heap.objs.size f fd.code)) → S ds Γ.M0 Q' E' →
      ∃ p, QSs Γ (cxOf CX0 P w K mg base N x (defScope st) f fd.code A outer s Γ.H0 E).nox (defBody st) p ∧ p (zEndsOf Γ.M0 Q') (zstart N ds) Γ.M0) : FnOk P w K mg base CX0 (k + 1) f fd ps (spZ P w K tb S) := by
  refine D.fn.okc sc (spZ_len len) fun A outer s H vs Q E hr h => ?_
  obtain ⟨β, ds, M, Q', E', eP, ew, eK, et, m, rs, hS, q, _⟩ := h
  obtain ⟨p, hp, hq⟩ := body A outer s E ⟨β, M, H⟩ ds Q' E' eP.symm ew.symm eK.symm et.symm hr hS
  refine ⟨_, hp, β, zstart N ds, M, zEndsOf M Q', zr_start (Γ := ⟨β, M, H⟩) m rs, hq, ?_⟩
  have fin : ∀ d M' v H', Ex β M H M' H' → Rz β M' H' v d → zFin M Q' d M' → Q v H' := fun d M' v H' x r h => zfin_ok m q x r h
  exact ⟨fun ρ' M' σ' H' x zr h => fin _ _ _ _ ⟨zr.ent, x.mz⟩ .non h, fun d M' v H' x e r h => fin _ _ _ _ ⟨e, x.mz⟩ r h, fun _ _ _ _ _ _ h => h, fun _ _ _ _ _ _ h => h⟩
end
end L2

set_option Elab.async false
set_option maxRecDepth 100000
set_option maxHeartbeats 4000000
namespace L2
open PySem PySem.Spec PySem.W PyProof.Rows
section
variable {P : Program} {w : World} {K : PySem.W.Frag} {mg : Str → Option Value} {base : Heap} {tb : Tbs} {x : Str} {st : Stmt} {f : Addr} {fd : FuncData} {N ps : List Str} {k : Nat} {S : ZSp}

theorem zdef1 (D : Df K mg x st ps f fd) (sc : FnScope N ps (defScope st)) (len : ∀ ds M Q E, S ds M Q E → ds.length = ps.length)
    (body : ∀ (A : Around) (outer : List Env) (s : Shared) (E : XK) (Γ : Gz) (ds : List Dv) (Q' : ZK) (E' : ZX), P = Γ.P → w = Γ.w → K = Γ.K → tb = Γ.tb → XR Γ E' E → Room k (A.deeper (envOfC x (defScope st) s.heap.objs.size f fd.code)) → S ds Γ.M0 Q' E' →
      ∃ p, QSs Γ (cxOf (CX1 P w) P w K mg base N x (defScope st) f fd.code A outer s Γ.H0 E) (defBody st) p ∧ p (zEndsOf Γ.M0 Q') (zstart N ds) Γ.M0) : FnOk P w K mg base (CX1 P w) (k + 1) f fd ps (spZ P w K tb S) := by
  refine D.fn.ok1 sc (spZ_len len) fun A outer s H vs Q E hr h => ?_
  obtain ⟨β, ds, M, Q', E', eP, ew, eK, et, m, rs, hS, q, qx⟩ := h
  obtain ⟨p, hp, hq⟩ := body A outer s E ⟨β, M, H⟩ ds Q' E' eP.symm ew.symm eK.symm et.symm qx hr hS
  refine ⟨_, hp, β, zstart N ds, M, zEndsOf M Q', zr_start (Γ := ⟨β, M, H⟩) m rs, hq, ?_⟩
  have fin : ∀ d M' v H', Ex β M H M' H' → Rz β M' H' v d → zFin M Q' d M' → Q v H' := fun d M' v H' x r h => zfin_ok m q x r h
  exact ⟨fun ρ' M' σ' H' x zr h => fin _ _ _ _ ⟨zr.ent, x.mz⟩ .non h, fun d M' v H' x e r h => fin _ _ _ _ ⟨e, x.mz⟩ r h, fun _ _ _ _ _ _ h => h, fun _ _ _ _ _ _ h => h⟩
end
section
variable {X : Cx} {Γ : Gz} {β : Bz} {K : PySem.W.Frag}

def zCall (S : ZSp) (E' : ZX) (za : ZTA) : ZTE := fun ρ M Q => za ρ M fun ds M1 => S ds M1 Q E'
theorem XR.none : XR Γ (fun _ _ => False) (fun _ _ _ => False) := fun _ _ _ _ h => h
theorem ex_ent {M M1 M2 : Mh} {H H1 H2 : Hp} (ent : Ey M H M1 H1) (sub : ∀ a, a ∈ Γ.hid → a ∈ β.hid) (eP : β.P = Γ.P) (ew : β.w = Γ.w) (eK : β.K = Γ.K) (et : β.tb = Γ.tb) (x : Ex β M1 H1 M2 H2) : Ex Γ.toBz M H M2 H2 := ⟨ent.trans x.toEy, x.mz.sub eP.symm ew.symm eK.symm et.symm sub⟩
section
variable {CX : CXT} {k : Nat} {f : Addr} {fd : FuncData} {ps : List Str} {S : ZSp} {E : XK} {E' : ZX} {x : Str} {p pos : Pos} {e : Expr} {es : List Expr} {za : ZTA} {P : Program} {w : World} {tb : Tbs}
theorem l_call (hP : P = Γ.P) (hw : w = Γ.w) (hK : K = Γ.K) (ht : tb = Γ.tb) (hE : XR Γ E' E) {σ : St} {H : Hp} {Q : VK} (h : lE Γ (zCall S E' za) σ H Q) : tCall (spZ P w K tb S) [] E (lA Γ za) σ H Q := by
  subst hP hw hK ht
  obtain ⟨β, ρ, M, Q', zr, h, q⟩ := h
  refine ⟨β, ρ, M, _, zr, h, fun ds M1 vs H1 x1 r1 h1 => ?_⟩
  show spZ Γ.P Γ.w Γ.K Γ.tb S (vs ++ []) H1 Q E
  rw [List.append_nil]
  exact ⟨β, ds, M1, Q', E', zr.eP, zr.ew, zr.eK, zr.et, x1.mz, r1, h1, fun d M2 v H2 x2 r2 h2 => q _ _ _ _ (x1.trans x2) r2 h2, fun C M2 H2 x2 h2 => hE C M2 H2 (ex_ent zr.ent zr.sub zr.eP zr.ew zr.eK zr.et (x1.trans x2)) h2⟩
theorem qe_call (F : FnOk X.prog X.w X.K X.mg X.base CX k f fd ps (spZ P w K tb S)) (hr : Room k X.A) (hg : Gl X x) (hm : X.mg x = some (.ref f)) (hk : PySem.W.keepIn X.K (.ref f) = true) (hb : Binds X.K fd ps []) (hx : Passes CX X E) (hP : P = Γ.P) (hw : w = Γ.w) (hK : K = Γ.K) (ht : tb = Γ.tb) (hE : XR Γ E' E)
    (ha : QA Γ X (e :: es) za) (hdb : (x == ("__debug__" : Str)) = false := by decide) (he : starEach (e :: es) X.env = (false, eval e X.env) :: starEach es X.env := by rfl) (hpl : (backTo pos (starEach es X.env)).any (·.1) = false := by rfl) :
    QE Γ X (.Call (.Name x p) (e :: es) [] pos) (zCall S E' za) := (pe_call F hr hg hm hk hb .nil hx ha hdb he hpl).imp fun σ H Q h => l_call hP hw hK ht hE h
end

def zRaise (C : Addr) (E' : ZX) (za : ZTA) : ZTS := fun _ ρ M => za ρ M fun ds M1 => ds.length ≤ sizeLine ∧ E' C M1
theorem qs_raise {x : Str} {C : Addr} {e₀ : Expr} {rest : List Expr} {za : ZTA} {bmB : List Value} {B newId initId : String} {E : XK} {E' : ZX} {np cpos pos : Pos} (O : PySem.W.excIn X.K C bmB newId = true) (FB : ExcBaseFacts B newId initId bmB) (hc : X.calm = true) (hR : Raises X E) (hE : XR Γ E' E) (hg : Gl X x) (hm : X.mg x = some (.ref C)) (ha : QA Γ X (e₀ :: rest) za)
    (hdb : (x == ("__debug__" : Str)) = false := by decide) (he : starEach (e₀ :: rest) X.env = (false, eval e₀ X.env) :: starEach rest X.env := by rfl) (hpl : (backTo cpos (starEach rest X.env)).any (·.1) = false := by rfl) :
    QS Γ X (.Raise (some (.Call (.Name x np) (e₀ :: rest) [] cpos)) none pos) (zRaise C E' za) := (ps_raise O FB hc hR hg hm ha hdb he hpl).imp fun D σ H ⟨β, ρ, M, D', zr, h, r⟩ => ⟨β, ρ, M, _, zr, h, fun ds M1 vs H1 x1 r1 h1 =>
  ⟨by rw [r1.len]; exact h1.1, hE C M1 H1 (ex_ent zr.ent zr.sub zr.eP zr.ew zr.eK zr.et x1) h1.2⟩⟩

def zTry (K : PySem.W.Frag) (C0 : Addr) (i n : Nat) (pb : ZX → ZTS) (ph : ZTS) : ZTS := fun D ρ M => pb (fun C M' => subIn K (.ref C) (.ref C0) = some true ∧ ph { D with nx := fun _ M2 => D.nx (List.replicate n none) M2, bk := fun _ M2 => D.bk (List.replicate n none) M2, ct := fun _ M2 => D.ct (List.replicate n none) M2 } ((List.replicate n none).set i (some (.exc C))) M') D ρ M
def zIsE (K : PySem.W.Frag) : ZRs := fun ds M Q => match ds with
  | [.exc C, .raw (.ref D)] => ExcCls K C ∧ (match kitOne K (.ref C) (.ref D) with | some b => Q (.bl b) M | none => False)
  | [.exc C, .raw (.ty T)] => ExcCls K C ∧ (match kitOne K (.ref C) (.type T) with | some b => Q (.bl b) M | none => False)
  | [.exc C, .tup es] => ExcCls K C ∧ ∃ Ds : List Addr, es = Ds.map (fun D => .raw (.ref D)) ∧ (match kitAny K (.ref C) (Ds.map Value.ref) with | some b => Q (.bl b) M | none => False)
  | _ => False
section
variable {tg elt iter : Expr} {ifs : List Expr} {scope : Scope} {pos : Pos} {N' : List Str} {tn : Nat} {idx : List Nat} {zi : ZTI} {g : ZTG} {tt : ZTT} {te : ZTE} {c P : Addr} {k : Nat}
theorem qe_listcomp (hc : X.calm = true) (B : BlockOk X.N X.env.scope scope N' tn idx) (hi : QI Γ X tg iter zi)
    (hg : Blk X N' scope fun Y => QG Γ Y tg g) (ht : Blk X N' scope fun Y => QIf Γ Y ifs tt) (he : Blk X N' scope fun Y => QE Γ Y elt te)
    (hs : ∀ x, foldedSetIterable iter X.env x = pure x := by intro _; rfl) : QE Γ X (.ListComp elt [⟨tg, iter, ifs, 0⟩] scope pos) (zComp tn idx zi g tt te) := (pe_listcomp hc B hi hg ht he hs).imp fun σ H Q h => l_comp h
theorem qs_setcomp {i : Nat} {y : Str} {py spos : Pos} (hN : X.N.Nodup) (hi' : X.N[i]? = some y) (hy : X.env.scope.names.lookup y = some .local) (hc : X.calm = true) (B : BlockOk X.N X.env.scope scope N' tn idx) (hi : QI Γ X tg iter zi)
    (hg : Blk X N' scope fun Y => QG Γ Y tg g) (ht : Blk X N' scope fun Y => QIf Γ Y ifs tt) (he : Blk X N' scope fun Y => QE Γ Y elt te)
    (hsw : swapsWith (.ListComp elt [⟨tg, iter, ifs, 0⟩] scope pos) (some (.Name y py)) spos.line X.env = pure true := by rfl)
    (hs : ∀ x, foldedSetIterable iter X.env x = pure x := by intro _; rfl) : QS Γ X (.Assign [.Name y py] (.ListComp elt [⟨tg, iter, ifs, 0⟩] scope pos) spos) (zAsg (zComp tn idx zi g tt te) (zgName i)) := (ps_setcomp hN hi' hy hc B hi hg ht he hsw hs).imp fun D σ H h => l_set (fun _ _ _ h => l_comp h) h
theorem qe_all {p gpos : Pos} (hP : P ∈ Γ.tb) (hr : Room (k + 1) X.A) (hc : X.calm = true) (B : BlockOk X.N X.env.scope scope N' tn idx)
    (h0 : scope.names.lookup (".0" : Str) = some .local) (hco : scope.isCoroutine = false) (hcode : X.env.code = .ref c) (hd : PySem.W.CodeHd X.base c P) (hbm : ∃ bm ob, BMod X.base mainGlobals X.mg bm ob)
    (hgl : Gl X "all") (hm : X.mg "all" = none) (hi : QI Γ X tg iter zi) (hg : BlkG X N' scope k fun Y => QG Γ Y tg g) (ht : BlkG X N' scope k fun Y => QIf Γ Y ifs tt) (he : BlkG X N' scope k fun Y => QE Γ Y elt te)
    (hs : ∀ x, genFold iter X.env x = pure x := by intro _; rfl) : QE Γ X (.Call (.Name "all" p) [geOf elt tg iter ifs scope gpos] [] pos) (zAll tn idx zi g tt te) := (pe_all hr hc B h0 hco hcode hd hbm hgl hm hi hg ht he hs).imp fun σ H Q h => l_all hP h
end
end
end L2

set_option Elab.async false
set_option maxRecDepth 100000
set_option maxHeartbeats 4000000
namespace L2
open PySem PySem.Spec PySem.W PyProof.Rows
section
variable {X : Cx} {Γ : Gz} {β : Bz} {K : PySem.W.Frag}
section
variable {tg elt iter : Expr} {ifs : List Expr} {scope : Scope} {pos : Pos} {N' : List Str} {tn : Nat} {idx : List Nat} {zi : ZTI} {g : ZTG} {tt : ZTT} {te : ZTE} {c P : Addr} {k : Nat}
theorem qe_tupleGen {p gpos : Pos} (hP : P ∈ Γ.tb) (hr : Room (k + 1) X.A) (hc : X.calm = true) (B : BlockOk X.N X.env.scope scope N' tn idx)
    (h0 : scope.names.lookup (".0" : Str) = some .local) (hco : scope.isCoroutine = false) (hcode : X.env.code = .ref c) (hd : PySem.W.CodeHd X.base c P) (hbm : ∃ bm ob, BMod X.base mainGlobals X.mg bm ob)
    (hgl : Gl X "tuple") (hm : X.mg "tuple" = none) (hi : QI Γ X tg iter zi) (hg : BlkG X N' scope k fun Y => QG Γ Y tg g) (ht : BlkG X N' scope k fun Y => QIf Γ Y ifs tt) (he : BlkG X N' scope k fun Y => QE Γ Y elt te)
    (hs : ∀ x, genFold iter X.env x = pure x := by intro _; rfl) : QE Γ X (.Call (.Name "tuple" p) [geOf elt tg iter ifs scope gpos] [] pos) (zTupG tn idx zi g tt te) := (pe_tupleGen hr hc B h0 hco hcode hd hbm hgl hm hi hg ht he hs).imp fun σ H Q h => l_tupG hP h

def zSetL (g : ZTG) (tt : ZTT) (te : ZTE) : List Dv → ZEnv → Mh → (List Int → Mh → Prop) → List Int → Prop
  | [], _, M, Q, acc => Q acc M
  | d :: ds, τ, M, Q, acc => g d τ M fun τ2 M2 => tt τ2 M2 fun b M3 => if b = true then te τ2 M3 fun y M4 => (match y with | .int k => acc.length + 1 < scanBound ∧ zSetL g tt te ds τ2 M4 Q (addI acc k) | _ => False) else zSetL g tt te ds τ2 M3 Q acc
def zSetC (tn : Nat) (idx : List Nat) (zi : ZTI) (g : ZTG) (tt : ZTT) (te : ZTE) : ZTE := fun ρ M Q => zi ρ M fun ds M1 => zSetL g tt te ds (zBlock tn idx ρ) M1 (fun ns M2 => Q (.set ns) M2) []
end

def pairsD (xs ys : List Dv) : List Dv := (xs.zip ys).map fun p => .tup [p.1, p.2]
def numD (n : Nat) : List Dv := (List.range n).map fun i => .int (i : Nat)
theorem rzs_num {n : Nat} {M : Mh} {H : Hp} : Rzs β M H ((List.range n).map fun i => V.int (i : Nat)) (numD n) := ⟨by simp [numD], fun i v d a b => by
  unfold numD at b
  rw [List.getElem?_map] at a b
  cases e : (List.range n)[i]? with
  | none => rw [e] at a; cases a
  | some c => rw [e] at a b; cases a; cases b; exact .int _⟩
section
variable {elts : List Expr} {x1 : Nat} {tp p pos : Pos} {l l1 l2 : Expr} {pl p1 p2 : ZTE}
def ziEnumK (k : Bool) (p : ZTE) : ZTI := fun ρ M R => p ρ M fun d M1 => match k, d with | false, .tup ds => R (pairsD (numD ds.length) ds) M1 | true, .lst ds => R (pairsD (numD ds.length) ds) M1 | _, _ => False
def seqK (k : Bool) (d : Dv) (R : List Dv → Prop) : Prop := match k, d with | false, .tup ds => R ds | true, .lst ds => R ds | _, _ => False
def ziZip (k1 k2 : Bool) (p1 p2 : ZTE) : ZTI := fun ρ M R => p1 ρ M fun d M1 => p2 ρ M1 fun e M2 => seqK k1 d fun xs => seqK k2 e fun ys => R (pairsD xs ys) M2
end

def zRangeT (p : ZTE) : ZTE := fun ρ M Q => p ρ M fun d M1 => match d with | .int j => -(2 ^ 20) ≤ j ∧ j ≤ 2 ^ 20 ∧ Q (.tup ((rangeI j.toNat).map .int)) M1 | _ => False
def zRangeL (p : ZTE) : ZTE := fun ρ M Q => p ρ M fun d M1 => match d with | .int j => -(2 ^ 24) ≤ j ∧ j ≤ 2 ^ 24 ∧ Q (.lst (numD j.toNat)) M1 | _ => False
def zRangeP (p : ZTE) : ZTE := fun ρ M Q => p ρ M fun d M1 => match d with | .int j => -(2 ^ 24) ≤ j ∧ j ≤ 2 ^ 24 ∧ ∀ a, M1 a = none → Q (.ptr a) (updM M1 a (.lst (numD j.toNat))) | _ => False
section
variable {e : Expr} {pe : ZTE} {p p1 p2 pos : Pos}
theorem qe_tuplerange (hc : X.calm = true) (hg : Gl X "tuple") (hm : X.mg "tuple" = none) (hgr : Gl X "range") (hmr : X.mg "range" = none) (he : QE Γ X e pe) (hs : starEach [e] X.env = [(false, eval e X.env)] := by rfl) :
    QE Γ X (.Call (.Name "tuple" p) [.Call (.Name "range" p1) [e] [] p2] [] pos) (zRangeT pe) := (pe_tuplerange hc hg hm hgr hmr he hs).imp fun σ H Q ⟨β, ρ, M, Q', zr, h, q⟩ => ⟨β, ρ, M, _, zr, h, fun d M1 v H1 x1 r1 h1 => by
  revert h1
  split
  · rintro ⟨b1, b2, h1⟩
    refine ⟨_, rz_int_of r1, b1, b2, fun l hl => ?_⟩
    exact q _ _ _ _ (x1.trans (Ex.lay x1.mz hl _)) (rz_tup (x1.mz.fz hl) upd_same ints_rzs) h1
  · exact fun h => h.elim⟩
theorem qe_listrange (hc : X.calm = true) (hg : Gl X "list") (hm : X.mg "list" = none) (hgr : Gl X "range") (hmr : X.mg "range" = none) (he : QE Γ X e pe) (hs : starEach [e] X.env = [(false, eval e X.env)] := by rfl) :
    QE Γ X (.Call (.Name "list" p) [.Call (.Name "range" p1) [e] [] p2] [] pos) (zRangeL pe) := (pe_listrange hc hg hm hgr hmr he hs).imp fun σ H Q ⟨β, ρ, M, Q', zr, h, q⟩ => ⟨β, ρ, M, _, zr, h, fun d M1 v H1 x1 r1 h1 => by
  revert h1
  split
  · rintro ⟨b1, b2, h1⟩
    refine ⟨_, rz_int_of r1, b1, b2, fun l hl => ?_⟩
    exact q _ _ _ _ (x1.trans (Ex.lay x1.mz hl _)) (rz_lst (x1.mz.fz hl) upd_same rzs_num) h1
  · exact fun h => h.elim⟩
def zNeg (p : ZTE) : ZTE := fun ρ M Q => p ρ M fun d M1 => match d with | .int i => Q (.int (-i)) M1 | _ => False
def truD (M : Mh) : Dv → Option Bool
  | .bl b => some b
  | .non => some false
  | .int i => some (i != 0)
  | .str z => if z.length ≤ sizeLine then some ((z.length : Int) != 0) else none
  | .tup ds => some (!ds.isEmpty)
  | .lst ds => some (!ds.isEmpty)
  | .ptr a => match M a with | some (.lst ds) => some (!ds.isEmpty) | _ => none
  | _ => none
def zTruth (p : ZTE) : ZTT := fun ρ M Q => p ρ M fun d M1 => match truD M1 d with | some b => Q b M1 | none => False
theorem Rzs.isEmpty {M : Mh} {H : Hp} {vs : List V} {ds : List Dv} (h : Rzs β M H vs ds) : vs.isEmpty = ds.isEmpty := by
  have := h.len
  cases vs <;> cases ds <;> simp_all
end
theorem qv (i : Nat) {x : Str} {pos : Pos} (hN : X.N[i]? = some x := by rfl) (hv : Vis X.env.scope x := by first | exact Or.inl rfl | exact Or.inr (Or.inl rfl) | exact Or.inr (Or.inr rfl)) (hd : (x == ("__debug__" : Str)) = false := by decide)
    (hcd : (x == ("__classdict__" : Str)) = false := by decide) : QE Γ X (.Name x pos) (zVar i) := qe_var hN hv hd hcd
end
end L2

set_option Elab.async false
set_option maxRecDepth 100000
set_option maxHeartbeats 4000000
namespace L2
open PySem PySem.Spec PySem.W PyProof.Rows
theorem ifT {c : Bool} {A B : Prop} (h : c = true) (a : A) : if c = true then A else B := by rw [if_pos h]; exact a
theorem ifF {c : Bool} {A B : Prop} (h : c = false) (b : B) : if c = true then A else B := by rw [h, if_neg Bool.false_ne_true]; exact b
theorem ifB {c : Bool} {A B : Prop} (h1 : c = true → A) (h2 : c = false → B) : if c = true then A else B := by
  cases c
  · exact ifF rfl (h2 rfl)
  · exact ifT rfl (h1 rfl)

theorem zall_of {g : ZTG} {te : ZTE} {M : Mh} (p : Dv → Bool) (I : ZEnv → Prop) : ∀ {ds : List Dv} {τ : ZEnv} {Q : Bool → Mh → Prop}, I τ → (∀ d ∈ ds, ∀ τ, I τ → ∀ R : ZEnv → ZK, (∀ τ2, I τ2 → R τ2 (.bl (p d)) M) → g d τ M fun τ2 M2 => te τ2 M2 (R τ2)) → Q (ds.all p) M → zAllL g zNoIf te ds τ M Q
  | [], τ, Q, _, _, q => q
  | d :: ds, τ, Q, i, h, q => by
    refine h d List.mem_cons_self τ i (fun τ2 => zBool fun c M4 => if c = false then Q false M4 else zAllL g zNoIf te ds τ2 M4 Q) fun τ2 i2 => ?_
    show if p d = false then Q false M else zAllL g zNoIf te ds τ2 M Q
    cases e : p d with
    | false =>
      rw [if_pos rfl]
      rw [List.all_cons, e] at q
      exact q
    | true =>
      rw [if_neg (by decide)]
      rw [List.all_cons, e, Bool.true_and] at q
      exact zall_of p I i2 (fun d' hd => h d' (List.mem_cons_of_mem _ hd)) q

theorem zmap_of {g : ZTG} {te : ZTE} (f : Dv → Dv) (I : ZEnv → Mh → Prop) : ∀ {ds : List Dv} {τ : ZEnv} {M : Mh} {Q : List Dv → Mh → Prop}, I τ M → (∀ d ∈ ds, ∀ τ M, I τ M → ∀ R : ZEnv → ZK, (∀ τ2 M2, I τ2 M2 → R τ2 (f d) M2) → g d τ M fun τ2 M2 => te τ2 M2 (R τ2)) → (∀ τ M, I τ M → Q (ds.map f) M) → zMap g zNoIf te ds τ M Q
  | [], τ, M, Q, i, _, q => q τ M i
  | d :: ds, τ, M, Q, i, h, q => by
    refine h d List.mem_cons_self τ M i (fun τ2 y M4 => zMap g zNoIf te ds τ2 M4 fun ys M5 => Q (y :: ys) M5) fun τ2 M2 i2 => ?_
    exact zmap_of f I i2 (fun d' hd => h d' (List.mem_cons_of_mem _ hd)) fun τ3 M3 i3 => q τ3 M3 i3

abbrev eI (ns : List Int) : Dv := .tup (ns.map .int)
abbrev eN (net : List (List Int)) : Dv := .tup (net.map eI)
abbrev lI' (ns : List Int) : Dv := .lst (ns.map .int)
theorem dts_ints : ∀ ns : List Int, dtsOf (ns.map Dv.int) = some (ns.map Dt.int)
  | [] => rfl
  | n :: ns => by simp only [List.map_cons, dtsOf, dtOf, dts_ints ns]
theorem eqDs_ints' : ∀ xs ys : List Int, eqDs (xs.map Dt.int) (ys.map Dt.int) = decide (xs = ys)
  | [], [] => by simp [eqDs]
  | [], _ :: _ => by simp [eqDs]
  | _ :: _, [] => by simp [eqDs]
  | x :: xs, y :: ys => by
    rw [List.map_cons, List.map_cons, eqDs, eqDs_ints' xs ys, eqD]
    by_cases h1 : x = y <;> by_cases h2 : xs = ys <;> simp [h1, h2]
theorem dpDs_le' {n : Nat} : ∀ {ds : List Dt}, (∀ d ∈ ds, dpD d ≤ n) → dpDs ds ≤ n
  | [], _ => by rw [dpDs]; exact Nat.zero_le _
  | d :: ds, h => by
    rw [dpDs]
    exact Nat.max_le.mpr ⟨h d List.mem_cons_self, dpDs_le' fun d' hd => h d' (List.mem_cons_of_mem _ hd)⟩
theorem dp_ints (ns : List Int) : dpDs (ns.map Dt.int) ≤ 0 := dpDs_le' fun d hd => by
  obtain ⟨i, _, rfl⟩ := List.mem_map.mp hd
  exact Nat.le_refl _
theorem pin_ints {M : Mh} (ns : List Int) : ∀ d ∈ ns.map Dv.int, Pin M d := fun d hd => by
  obtain ⟨i, _, rfl⟩ := List.mem_map.mp hd
  exact .int i
theorem Ex.bag {β : Bz} {M : Mh} {H H' : Hp} {b : Addr} (m : Mz β M H) (hb : H b = none) (k : Keep H H') (hB : BagAt H' b) : Ex β M H (updM M b .bag) H' := by
  have x := Ex.of_keep m k
  have hMb := m.free hb
  have rz : ∀ {v : V} {d : Dv}, Rz β M H v d → Rz β (updM M b .bag) H' v d := fun r => by
    have ne : ∀ a u, Fz β M a → H a = some u → Fz β (updM M b .bag) a := fun a u f e => ⟨by rw [updM_ne (ne_of_none e hb)]; exact f.1, f.2⟩
    induction r with
    | int i => exact .int i
    | bl b => exact .bl b
    | non => exact .non
    | str z => exact .str z
    | tup m e hl h ih => exact .tup (ne _ _ m e) (k.tup e) hl ih
    | lst m e hl h ih => exact .lst (ne _ _ m e) (k.lst e) hl ih
    | dk m e hk hl h ih => exact .dk (ne _ _ m e.there.choose_spec) (e.mapB rfl fun x hx h => k.get h (by intro ps z; subst z; cases hx)) hk hl ih
    | dt m e hk hl h ih => exact .dt (ne _ _ m e.there.choose_spec) (e.mapB rfl fun x hx h => k.get h (by intro ps z; subst z; cases hx)) hk hl ih
    | clo m e m2 e2 hl h ih => exact .clo (ne _ _ m e) (k.get e (by intro ps z; cases z)) (ne _ _ m2 e2) (k.get e2 (by intro ps z; cases z)) hl ih
    | set m e => exact .set (ne _ _ m e) (k.get e (by intro ps z; cases z))
    | ptr m => exact .ptr (by unfold updM; split; rfl; exact m)
    | exc m e => exact .exc (ne _ _ m e) (k.get e (by intro ps z; cases z))
    | scr m e => exact .scr (ne _ _ m e) (k.get e (by intro ps z; cases z))
    | scrL m e => exact .scrL (ne _ _ m e) (k.get e (by intro ps z; cases z))
    | scrK e => exact .scrK e
    | raw v => exact .raw v
  refine ⟨⟨x.keep, fun a h => by unfold updM; split; rfl; exact h, fun a o hm h => by rw [updM_ne (ne_of_none h hb)]; exact hm⟩, fun a o e => ?_, x.mz.tabs, x.mz.hids, fun a o e z => ?_, x.mz.lams⟩
  · by_cases ha : a = b
    · subst ha
      rw [updM_same] at e
      cases e
      exact hB
    · rw [updM_ne ha] at e
      have z := m.obj a o e
      cases o with
      | lst ds => obtain ⟨vs, z, l, r⟩ := z; exact ⟨vs, k.lst z, l, fun i v d a b => rz (r i v d a b)⟩
      | dk ks ds => obtain ⟨vs, z, hk, l, r⟩ := z; exact ⟨vs, k.get z (by intro ps z; cases z), hk, l, fun i v d a b => rz (r i v d a b)⟩
      | dt ks ds => obtain ⟨vs, z, hk, l, r⟩ := z; exact ⟨vs, k.get z (by intro ps z; cases z), hk, l, fun i v d a b => rz (r i v d a b)⟩
      | bag => exact BagAt.keep k z
  · by_cases ha : a = b
    · subst ha
      obtain ⟨u, hu, _⟩ := m.hids a z
      rw [hb] at hu
      cases hu
    · rw [updM_ne ha] at e
      exact m.apart a o e z
def spLaw (K : PySem.W.Frag) (tb : Tbs) : Sp := fun vs H Q _ => ∃ (a : Addr) (ns : List Int), vs = [.ref a] ∧ SqL K H a (ns.map V.int) ∧ ns.length ≤ 63 ∧ TbAll tb.g H ∧ (∀ p ∈ tb.l, Lm H p) ∧ ∀ H', (∀ p ∈ tb.l, ∃ ps, H' p.1 = some (.lam ps)) → Q (.bl true) H'
def zLaw : ZSp := fun ds M Q _ => ∃ ns : List Int, ds = [.scr ns] ∧ ns.length ≤ 63 ∧ (∀ a, M a = none) ∧ ∀ M', Q (.bl true) M'
theorem law_of {P : Program} {w : World} {K : PySem.W.Frag} {mg : Str → Option Value} {base : Heap} {k : Nat} {f : Addr} {fd : FuncData} {x : Str} {tb : Tbs} (G : FnOk P w K mg base CX0 k f fd [x] (spZ P w K tb zLaw)) : FnOk P w K mg base CX0 k f fd [x] (spLaw K tb) :=
  G.imp fun vs H Q E ⟨a, ns, e, hS, hl, hT, hL, q⟩ => by
    subst e
    have m : Mz ⟨P, w, K, tb, []⟩ (fun _ => none) H := ⟨(fun a o e => nomatch e), hT, (fun a ha => absurd ha (by simp)), (fun a o e => nomatch e), hL⟩
    refine ⟨⟨P, w, K, tb, []⟩, [.scr ns], fun _ => none, fun d _ => d = .bl true, fun _ _ => False, rfl, rfl, rfl, rfl, m, .cons ?_ .nil, ⟨ns, rfl, hl, fun _ => rfl, fun _ => rfl⟩, fun d M' v H' x r h => ?_, fun _ _ _ _ h => h.elim⟩
    · have fz : Fz ⟨P, w, K, tb, []⟩ (fun _ => none) a := ⟨rfl, by simp⟩
      rcases hS with (h | ⟨o, h⟩) | h
      · exact .scrL fz h
      · exact .scr fz h
      · exact .scrK h
    · subst h
      rw [rz_bl_of r]
      exact q H' fun p hp => let ⟨ps, e, _⟩ := x.mz.lams p hp; ⟨ps, e⟩

theorem rz_net {β : Bz} {M : Mh} {H : Hp} {v : V} {net : List (List Int)} (m : Mz β M H) (h : NetAt H v net) : Rz β M H v (eN net) := by
  have fz : ∀ a xs, H a = some (.tup xs) → Fz β M a := fun a xs e => ⟨m.notown e rfl, fun z => by
    obtain ⟨o, h, n⟩ := m.hids a z
    rw [e] at h
    cases h
    cases n⟩
  obtain ⟨a, rs, rfl, ha, p⟩ := h
  refine .tup (fz _ _ ha) ha (by rw [List.length_map]; exact p.length) fun i v d hv hd => ?_
  rw [List.getElem?_map, Option.map_eq_some_iff] at hd
  obtain ⟨r, hr, rfl⟩ := hd
  obtain ⟨v2, hv2, q, rfl, hq⟩ := paired_get p hr
  rw [hv] at hv2
  cases hv2
  exact rz_tup (fz _ _ hq) hq ints_rzs

def Keeps (M0 M : Mh) : Prop := ∀ a o, M0 a = some o → M a = some o
theorem Keeps.refl {M0 : Mh} : Keeps M0 M0 := fun _ _ h => h
theorem Keeps.upd {M0 M : Mh} {a : Addr} {o : Mo} (ha : M0 a = none) (h : Keeps M0 M) : Keeps M0 (updM M a o) := fun b u e => by
  rw [updM_ne (fun z => by rw [z, ha] at e; cases e)]
  exact h b u e
theorem zfin_data {M0 M : Mh} {Q : ZK} {d : Dv} (h : Keeps M0 M) (p : Pin M0 d) (q : Q d M0) : zFin M0 Q d M := .inr ⟨h, d, .pin p, q⟩
theorem rangeD_at {lo : Int} {n i : Nat} {d : Dv} (h : (rangeD lo n)[i]? = some d) : d = .int (lo + (i : Nat)) ∧ i < n := by
  unfold rangeD at h
  rw [List.getElem?_map] at h
  cases e : (List.range n)[i]? with
  | none => rw [e] at h; cases h
  | some k =>
    rw [e] at h
    obtain ⟨h1, h2⟩ := List.getElem?_eq_some_iff.mp e
    rw [List.getElem_range] at h2
    subst h2
    exact ⟨(Option.some.inj h).symm, by simpa using h1⟩
theorem rangeD_len (lo : Int) (n : Nat) : (rangeD lo n).length = n := by simp [rangeD]

theorem atI_zero {α : Type} {x : α} {xs : List α} : atI (x :: xs) 0 = some x := atI_nat (j := 0) rfl
theorem pairsD_len (xs ys : List Dv) : (pairsD xs ys).length = min xs.length ys.length := by simp [pairsD]
theorem numD_len (n : Nat) : (numD n).length = n := by simp [numD]
end L2

set_option Elab.async false
set_option maxRecDepth 100000
set_option maxHeartbeats 4000000
namespace L2
open PySem PySem.Spec PyProof.Rows

def BlockOkC (N : List Str) (sc scope : Scope) (N' : List Str) (tn : Nat) (idx : List Nat) : Prop :=
  scope.kind = .function ∧ (∀ y ∈ scope.names, (y.2 = .cell → scope.names.lookup y.1 = some .cell) ∧ (y.2 = .local → scope.names.lookup y.1 = some .local) ∧ (y.2 = .free → sc.names.lookup y.1 = some .cell ∨ sc.names.lookup y.1 = some .free)) ∧
    N'.length = tn + idx.length ∧ ∀ p ∈ idx.zip (N'.drop tn), N[p.1]? = some p.2 ∧ scope.names.lookup p.2 = some .free
instance (N : List Str) (sc scope : Scope) (N' : List Str) (tn : Nat) (idx : List Nat) : Decidable (BlockOkC N sc scope N' tn idx) := by unfold BlockOkC; infer_instance
theorem BlockOkC.at {N : List Str} {sc scope : Scope} {N' : List Str} {tn : Nat} {idx : List Nat} (B : BlockOkC N sc scope N' tn idx) {σ : St} {i : Nat} {x : Str} {v : V} (h1 : N'[i]? = some x) (h2 : (blockSt tn idx σ)[i]? = some (some v)) :
    scope.names.lookup x = some .free ∧ ∃ j : Nat, N[j]? = some x ∧ σ[j]? = some (some v) := by
  obtain ⟨_, _, b3, b4⟩ := B
  unfold blockSt at h2
  by_cases hi : i < tn
  · rw [List.getElem?_append_left (by simpa using hi), List.getElem?_replicate, if_pos hi] at h2
    cases h2
  · rw [List.getElem?_append_right (by simpa using hi), List.length_replicate, List.getElem?_map] at h2
    cases e : idx[i - tn]? with
    | none => rw [e] at h2; cases h2
    | some k =>
      rw [e] at h2
      have h3 : (σ[k]?).join = some v := Option.some.inj h2
      have e2 : (N'.drop tn)[i - tn]? = some x := by
        rw [List.getElem?_drop]
        have : tn + (i - tn) = i := by omega
        rw [this]; exact h1
      have m : (k, x) ∈ idx.zip (N'.drop tn) := by
        refine List.mem_of_getElem? (i := i - tn) ?_
        rw [List.getElem?_zip_eq_some]
        exact ⟨e, e2⟩
      obtain ⟨a, b⟩ := b4 _ m
      refine ⟨b, k, a, ?_⟩
      cases q : σ[k]? with
      | none => rw [q] at h3; cases h3
      | some w => rw [q] at h3; exact congrArg some h3
theorem BlockOkC.len {N : List Str} {sc scope : Scope} {N' : List Str} {tn : Nat} {idx : List Nat} (B : BlockOkC N sc scope N' tn idx) (σ : St) : (blockSt tn idx σ).length = N'.length := by
  rw [B.2.2.1]
  unfold blockSt
  simp
section
variable {X : Cx}
variable {tg elt iter : Expr} {ifs : List Expr} {scope : Scope} {pos : Pos} {N' : List Str} {tn : Nat} {idx : List Nat} {wi : TI} {g : TG} {tt : TT} {te : TE}
variable {Γ : Gz}
end

theorem rel_kind {scope : Scope} {env : Env} {x : Str} (h : scope.names.lookup x = some .cell ∨ scope.names.lookup x = some .free) : (relabel scope env).names.lookup x = some .cell ∨ (relabel scope env).names.lookup x = some .free := by
  rw [relabel_kind]
  rcases h with h | h
  · rw [h]; exact .inl rfl
  · rw [h]
    simp only [Option.map_some]
    split
    · exact .inl rfl
    · exact .inr rfl
theorem BlockOk.rel {N : List Str} {sc scope : Scope} {env : Env} {N' : List Str} {tn : Nat} {idx : List Nat} (B : BlockOk N sc scope N' tn idx) : BlockOk N (relabel sc env) scope N' tn idx :=
  ⟨B.1, fun y hy => ⟨(B.2.1 y hy).1, (B.2.1 y hy).2.1, fun z => rel_kind ((B.2.1 y hy).2.2 z)⟩, B.2.2.1, B.2.2.2⟩
theorem BlockOkC.rel {N : List Str} {sc scope : Scope} {env : Env} {N' : List Str} {tn : Nat} {idx : List Nat} (B : BlockOkC N sc scope N' tn idx) : BlockOkC N (relabel sc env) scope N' tn idx :=
  ⟨B.1, fun y hy => ⟨(B.2.1 y hy).1, (B.2.1 y hy).2.1, fun z => rel_kind ((B.2.1 y hy).2.2 z)⟩, B.2.2.1, B.2.2.2⟩
end L2

set_option Elab.async false
set_option maxRecDepth 100000
set_option maxHeartbeats 4000000
namespace L2
open PySem PySem.Spec PySem.W PyProof.Rows
section
variable {X : Cx} {Γ : Gz} {β : Bz} {K : PySem.W.Frag}

def zInI (neg : Bool) : ZR2 := fun d e M Q => match d, (itemsM M e).bind intsD with | .int i, some ns => Q (.bl (if neg then !decide (i ∈ ns) else decide (i ∈ ns))) M | _, _ => False
def boolsD : List Dv → Option (List Bool)
  | [] => some []
  | .bl b :: ds => (boolsD ds).map (b :: ·)
  | _ :: _ => none
def zAllB (d : Dv) (M : Mh) (Q : ZK) : Prop := match d with | .lst ds => (match boolsD ds with | some bs => Q (.bl (bs.all id)) M | none => False) | _ => False
theorem Pin.mono {M M' : Mh} {d : Dv} (h : Pin M d) : (∀ a, (M a).isSome = true → (M' a).isSome = true) → Pin M' d := by
  intro k
  induction h with
  | int i => exact .int i
  | bl b => exact .bl b
  | non => exact .non
  | str z => exact .str z
  | tup h ih => exact .tup ih
  | lst h ih => exact .lst ih
  | dk h ih => exact .dk ih
  | dt h ih => exact .dt ih
  | clo h ih => exact .clo ih
  | set ns => exact .set ns
  | ptr h => exact .ptr (k _ h)
  | exc C => exact .exc C
  | scr ns => exact .scr ns
  | raw v => exact .raw v
def dropM (M : Mh) (a : Addr) : Mh := fun b => if b = a then none else M b
theorem dropM_same {M : Mh} {a : Addr} : dropM M a a = none := by unfold dropM; rw [if_pos rfl]
theorem dropM_ne {M : Mh} {a b : Addr} (h : b ≠ a) : dropM M a b = M b := by unfold dropM; rw [if_neg h]
theorem dropM_updM {M : Mh} {a : Addr} {o : Mo} (h : M a = none) : dropM (updM M a o) a = M := by
  funext b
  unfold dropM updM
  by_cases e : b = a
  · rw [if_pos e, e, h]
  · rw [if_neg e, if_neg e]

structure Froz (M1 M : Mh) (ρ : ZEnv) : Prop where
  env : ∀ (i : Nat) (d : Dv), ρ[i]? = some (some d) → Pin M d
  obj : ∀ b o, M b = some o → M1 b = some o ∨ ∀ d ∈ o.items, Pin M d
theorem Zr.freeze {M : Mh} {ρ : ZEnv} {σ : St} {H : Hp} {i : Nat} {a : Addr} {ds : List Dv} (z : Zr Γ β M ρ σ H) (hi : ρ[i]? = some (some (.ptr a))) (ha : M a = some (.lst ds)) (h0 : Γ.M0 a = none) (fr : Froz Γ.M0 (dropM M a) (ρ.set i (some (.lst ds)))) :
    Zr Γ β (dropM M a) (ρ.set i (some (.lst ds))) σ H ∧ Ev β M H (dropM M a) H := by
  have rz : ∀ {v : V} {d : Dv}, Rz β M H v d → Pin (dropM M a) d → Rz β (dropM M a) H v d := fun r p => r.unpin (M0 := dropM M a) (fun b hb => by
    by_cases e : b = a
    · rw [e, dropM_same] at hb; cases hb
    · rw [dropM_ne e] at hb; exact hb) p
  have hin : i < ρ.length := (List.getElem?_eq_some_iff.mp hi).1
  have pds : ∀ d ∈ ds, Pin (dropM M a) d := fun d hd => by
    have := fr.env i (.lst ds) (by rw [List.getElem?_set_self hin])
    cases this with | lst h => exact h d hd
  have obj : ∀ b es, dropM M a b = some es → ∀ d ∈ es.items, Pin (dropM M a) d := fun b es e d hd => by
    rcases fr.obj b es e with q | q
    · refine (z.wf b es q d hd).mono fun c hc => ?_
      have nc : c ≠ a := fun w => by rw [w, h0] at hc; cases hc
      rw [dropM_ne nc]
      exact z.ent.dom c hc
    · exact q d hd
  have mz : Mz β (dropM M a) H := by
    refine ⟨fun b o e => ?_, z.mz.tabs, z.mz.hids, fun b o e => ?_, z.mz.lams⟩
    · have nb : b ≠ a := fun q => by rw [q, dropM_same] at e; cases e
      have e' : M b = some o := by rw [dropM_ne nb] at e; exact e
      have q := z.mz.obj b o e'
      cases o with
      | lst es => obtain ⟨vs, hv, rs⟩ := q; exact ⟨vs, hv, rs.len, fun j v d x y => rz (rs.at' j v d x y) (obj b _ e d (List.mem_of_getElem? y))⟩
      | dk ks es => obtain ⟨vs, hv, hk, rs⟩ := q; exact ⟨vs, hv, hk, rs.len, fun j v d x y => rz (rs.at' j v d x y) (obj b _ e d (List.mem_of_getElem? y))⟩
      | dt ks es => obtain ⟨vs, hv, hk, rs⟩ := q; exact ⟨vs, hv, hk, rs.len, fun j v d x y => rz (rs.at' j v d x y) (obj b _ e d (List.mem_of_getElem? y))⟩
      | bag => exact q
    · have nb : b ≠ a := fun q => by rw [q, dropM_same] at e; cases e
      rw [dropM_ne nb] at e
      exact z.mz.apart b o e
  refine ⟨⟨z.eP, z.ew, z.eK, z.et, z.sub, z.wf, ⟨z.ent.keep, fun b hb => ?_, fun b o m h => ?_⟩, mz, by simp [z.len], fun j d e => ?_⟩, ⟨fun b o _ h => .inl h, fun b o m h => ?_, mz⟩⟩
  · have nb : b ≠ a := fun q => by rw [q, h0] at hb; cases hb
    rw [dropM_ne nb]; exact z.ent.dom b hb
  · by_cases e : b = a
    · rw [e, dropM_same]
    · rw [dropM_ne e]; exact z.ent.new b o m h
  · have p := fr.env j d e
    rw [List.getElem?_set] at e
    split at e
    · rename_i q
      subst q
      first
        | cases e
        | (rw [if_pos hin] at e; cases e)
      obtain ⟨v, hv, r⟩ := z.at' i _ hi
      obtain ⟨rfl, _⟩ := rz_ptr_of r
      obtain ⟨vs, hl, rs⟩ := z.mz.obj a _ ha
      refine ⟨_, hv, .lst ⟨dropM_same, z.mz.apart a _ ha⟩ hl rs.len fun k v d x y => rz (rs.at' k v d x y) (pds d (List.mem_of_getElem? y))⟩
    · obtain ⟨v, hv, r⟩ := z.at' j d e
      exact ⟨v, hv, rz r p⟩
  · by_cases e : b = a
    · rw [e, dropM_same]
    · rw [dropM_ne e]; exact m

def zFrz (i : Nat) (M0 : Mh) (p : ZTS) : ZTS := fun D ρ M => p D ρ M ∨ ∃ a ds, ρ[i]? = some (some (.ptr a)) ∧ M a = some (.lst ds) ∧ M0 a = none ∧ Froz M0 (dropM M a) (ρ.set i (some (.lst ds))) ∧ p D (ρ.set i (some (.lst ds))) (dropM M a)
theorem qs_frz (i : Nat) {M1 : Mh} {st : Stmt} {p : ZTS} (hM : Γ.M0 = M1) (h : QS Γ X st p) : QS Γ X st (zFrz i M1 p) := h.imp fun D σ H ⟨β, ρ, M, D', zr, h, r⟩ => by
  rcases h with h | ⟨a, ds, hi, ha, h0, fr, h⟩
  · exact ⟨β, ρ, M, D', zr, h, r⟩
  · obtain ⟨z2, e2⟩ := zr.freeze hi ha (by rw [hM]; exact h0) (by rw [hM]; exact fr)
    exact ⟨β, _, _, D', z2, h, r.step e2⟩
end
end L2

set_option Elab.async false
set_option maxRecDepth 100000
set_option maxHeartbeats 4000000
namespace L2
open PySem PySem.Spec PySem.W PyProof.Rows

def zCount : ZRM := fun d ds M Q => match d, ds with | .tup xs, [.int i] => (match intsD xs with | some ns => Q (.int (ns.count i : Nat)) M | none => False) | _, _ => False
def zSum (d : Dv) (M : Mh) (Q : ZK) : Prop := match d with | .lst ds => (match intsD ds with | some ns => Q (.int ns.sum) M | none => False) | _ => False
def zReverse : ZRM := fun d ds M Q => match d, ds with | .ptr a, [] => (match M a with | some (.lst xs) => Q .non (updM M a (.lst xs.reverse)) | _ => False) | _, _ => False
end L2

set_option Elab.async false
set_option maxRecDepth 100000
set_option maxHeartbeats 4000000
namespace L2
open PySem PySem.Spec PySem.W PyProof.Rows
section
variable {X : Cx} {Γ : Gz} {β : Bz}

inductive NoL : Dv → Prop where
  | int (i : Int) : NoL (.int i)
  | bl (b : Bool) : NoL (.bl b)
  | non : NoL .non
  | str (z : Str) : NoL (.str z)
  | ptr (a : Addr) : NoL (.ptr a)
  | tup {ds : List Dv} (h : ∀ d ∈ ds, NoL d) : NoL (.tup ds)
theorem Rz.grow {M : Mh} {H : Hp} {a : Addr} {us : List V} (ha : H a = some (.lst us)) {v : V} {d : Dv} (h : Rz β (dropM M a) H v d) : NoL d → Rz β M H v d := by
  induction h with
  | int i => exact fun _ => .int i
  | bl b => exact fun _ => .bl b
  | non => exact fun _ => .non
  | str z => exact fun _ => .str z
  | @tup p vs ds m e hl h ih =>
    intro n
    cases n with
    | tup n =>
      have hp : p ≠ a := fun z => by rw [z, ha] at e; cases e
      exact .tup ⟨by have := m.1; rw [dropM_ne hp] at this; exact this, m.2⟩ e hl fun i v d x y => ih i v d x y (n d (List.mem_of_getElem? y))
  | @ptr p m =>
    intro _
    refine .ptr ?_
    by_cases z : p = a
    · rw [z, dropM_same] at m; cases m
    · rw [dropM_ne z] at m; exact m
  | _ => intro n; cases n
def rInD (neg : Bool) : R2 := fun x y H Q => ∃ (p : Addr) (xs : List V) (d : Dt) (ds : List Dt), y = .ref p ∧ H p = some (.lst xs) ∧ Rdt H x d ∧ xs.length = ds.length ∧ (∀ (i : Nat) (v : V) (t : Dt), xs[i]? = some v → ds[i]? = some t → Rdt H v t) ∧
  (∀ t ∈ ds, dpD t ≤ 60) ∧ Q (.bl (if neg then !(ds.any fun t => eqD t d) else ds.any fun t => eqD t d)) H
open Classical in
theorem in_key {pins : List (Addr × Obj)} {σ : St} {H : Hp} {s : Shared} (I : Inv X pins σ H s) {x : V} {v : Value} {d : Dt} {xs : List V} {ds : List Dt} {its : List Value} (rx : RelV x v) (hx : Rdt H x d) (rv : Vals xs its) (hl : xs.length = ds.length)
    (hat : ∀ (i : Nat) (v : V) (t : Dt), xs[i]? = some v → ds[i]? = some t → Rdt H v t) (hdp : ∀ t ∈ ds, dpD t ≤ 60) (hu : X.A.units + 64 < cLine) :
    ∃ e : Value → Bool, (∀ y ∈ its, SeqAt.EqAt X.A.in1 s y v (e y)) ∧ its.any e = ds.any fun t => eqD t d := by
  have hli := rv.length
  let e : Value → Bool := fun y => decide (∃ (i : Nat) (t : Dt), its[i]? = some y ∧ ds[i]? = some t ∧ eqD t d = true)
  have key : ∀ (i : Nat) (y : Value) (t : Dt), its[i]? = some y → ds[i]? = some t → e y = eqD t d := fun i y t hi ht => by
    cases hE : eqD t d with
    | true => exact decide_eq_true ⟨i, t, hi, ht, hE⟩
    | false =>
      refine decide_eq_false fun ⟨j, t', hj, ht', he⟩ => ?_
      obtain ⟨a, ha, ra⟩ := paired_get rv hi
      obtain ⟨b, hb, rb⟩ := paired_get rv hj
      have eab := ra.inj rb
      subst eab
      have := (hat i a t ha ht).inj (hat j a t' hb ht')
      subst this
      rw [he] at hE
      cases hE
  refine ⟨e, fun y hy => ?_, ?_⟩
  · obtain ⟨i, hi⟩ := List.mem_iff_getElem?.mp hy
    obtain ⟨a, ha, ra⟩ := paired_get rv hi
    have hil : i < ds.length := by
      have := (List.getElem?_eq_some_iff.mp ha).1
      omega
    have ht := List.getElem?_eq_getElem hil
    rw [key i y _ hi ht]
    refine eqAt_D I (hat i a _ ha ht) hx ra rx ?_
    have := hdp _ (List.getElem_mem hil)
    have : X.A.in1.units = X.A.units + 1 := rfl
    omega
  · rw [Bool.eq_iff_iff, List.any_eq_true, List.any_eq_true]
    constructor
    · rintro ⟨y, hy, he⟩
      obtain ⟨i, t, _, ht, h⟩ := of_decide_eq_true he
      exact ⟨t, List.mem_of_getElem? ht, h⟩
    · rintro ⟨t, ht, h⟩
      obtain ⟨i, hi⟩ := List.mem_iff_getElem?.mp ht
      have hil : i < its.length := by
        have := (List.getElem?_eq_some_iff.mp hi).1
        omega
      exact ⟨_, List.getElem_mem hil, by rw [key i _ t (List.getElem?_eq_getElem hil) hi]; exact h⟩
theorem op_notInD (hu : X.A.units + 64 < cLine) : OpR X (compareOp .NotIn) (rInD true) := by
  intro pins s σ H x y v u Q I rx ry h
  obtain ⟨p, xs, d, ds, rfl, hp, hx, hl, hat, hdp, q⟩ := h
  cases ry
  obtain ⟨its, rv, pl⟩ := I.lists hp
  obtain ⟨e, he, hany⟩ := in_key I rx hx rv hl hat hdp hu
  refine SeqAt.notIn_listAt e pl (fun y hy => he y (by simpa using hy)) ⟨.bl _, H, I, rfl, ?_⟩
  rw [show its.toArray.any e = its.any e by simp, hany]
  exact q
def zInD (neg : Bool) : ZR2 := fun d e M Q => match dtOf (now M d), (now M e) with
  | some a, .lst ds => (match dtsOf ds with | some ts => (∀ t ∈ ts, dpD t ≤ 60) ∧ Q (.bl (if neg then !(ts.any fun t => eqD t a) else ts.any fun t => eqD t a)) M | none => False)
  | _, _ => False
theorem opz_inD {neg : Bool} : OpZ Γ (rInD neg) (zInD neg) := fun β x y d e M H Q Q' _ _ _ m rx ry z q => by
  unfold zInD at z
  split at z
  · rename_i a ds h1 h2
    split at z
    · rename_i ts hts
      have hy : Rdt H y (.lst ts) := now_rdt m ry (by rw [h2]; simp only [dtOf, hts, Option.map_some])
      have hx : Rdt H x a := now_rdt m rx h1
      cases hy with
      | lst e hl hat => exact ⟨_, _, a, ts, rfl, e, hx, hl, hat, z.1, q _ _ _ _ (.refl m) (.bl _) z.2⟩
    · exact z.elim
  · exact z.elim
theorem q_notInD (hu : X.A.units + 64 < cLine) : QOp Γ X (compareOp .NotIn) (zInD true) := ⟨_, op_notInD hu, opz_inD⟩
end
end L2

set_option Elab.async false
set_option maxRecDepth 100000
set_option maxHeartbeats 4000000
namespace L2
open PySem PySem.Spec PyProof.Rows

section
variable {κ : Type} [DecidableEq κ] {α : Type}
def look : List κ → List α → κ → Option α
  | k :: ks, d :: ds, x => if k = x then some d else look ks ds x
  | _, _, _ => none
def replV : List κ → List α → κ → α → List α
  | k :: ks, d :: ds, x, y => (if k = x then y else d) :: replV ks ds x y
  | _, _, _, _ => []
def putL (ks : List κ) (k : κ) : List κ := if k ∈ ks then ks else ks ++ [k]
def putV (ks : List κ) (ds : List α) (k : κ) (d : α) : List α := if k ∈ ks then replV ks ds k d else ds ++ [d]
theorem look_none {x : κ} : ∀ {ks : List κ} {ds : List α}, ks.length = ds.length → (look ks ds x = none ↔ x ∉ ks)
  | [], [], _ => by simp [look]
  | k :: ks, d :: ds, h => by
    have ih := look_none (x := x) (ks := ks) (ds := ds) (by simpa using h)
    unfold look
    by_cases e : k = x
    · simp [e]
    · rw [if_neg e, ih, List.mem_cons]
      constructor
      · rintro a (b | b)
        · exact e b.symm
        · exact a b
      · exact fun a b => a (.inr b)
  | [], _ :: _, h => by simp at h
  | _ :: _, [], h => by simp at h
theorem look_zip (x : κ) : ∀ (ks : List κ) (vs : List V), valV (ks.zip vs) x = look ks vs x
  | [], vs => by cases vs <;> rfl
  | _ :: _, [] => rfl
  | k :: ks, v :: vs => by
    rw [List.zip_cons_cons]
    unfold look
    by_cases e : k = x
    · rw [if_pos e]; exact valV_pos (p := (k, v)) e
    · rw [if_neg e, valV_neg (p := (k, v)) e]; exact look_zip x ks vs
theorem look_get (x : κ) : ∀ (ks : List κ) (ds : List α) {d : α}, look ks ds x = some d → ∃ i : Nat, ks[i]? = some x ∧ ds[i]? = some d ∧ ∀ {β : Type} (es : List β), look ks es x = es[i]?
  | [], ds, d, h => by cases ds <;> cases h
  | _ :: _, [], d, h => by cases h
  | k :: ks, e :: ds, d, h => by
    unfold look at h
    by_cases q : k = x
    · rw [if_pos q] at h
      cases h
      refine ⟨0, by rw [q]; rfl, rfl, fun es => ?_⟩
      cases es with
      | nil => rfl
      | cons a es => unfold look; rw [if_pos q]; rfl
    · rw [if_neg q] at h
      obtain ⟨i, a, b, c⟩ := look_get x ks ds h
      refine ⟨i + 1, a, b, fun es => ?_⟩
      cases es with
      | nil => rfl
      | cons y es => unfold look; rw [if_neg q, c es]; rfl
theorem look_of_none (x : κ) : ∀ (ks : List κ) (ds : List α) {β : Type} (es : List β), ds.length = es.length → look ks ds x = none → look ks es x = none
  | [], ds, _, es, _, _ => by cases es <;> rfl
  | _ :: _, [], _, es, h, _ => by cases es with
    | nil => rfl
    | cons _ _ => simp at h
  | k :: ks, d :: ds, _, [], h, _ => by simp at h
  | k :: ks, d :: ds, _, e :: es, h, q => by
    unfold look at q ⊢
    by_cases z : k = x
    · rw [if_pos z] at q; cases q
    · rw [if_neg z] at q ⊢
      exact look_of_none x ks ds es (by simpa using h) q
theorem replV_len (x : κ) (y : α) : ∀ (ks : List κ) (ds : List α), ks.length = ds.length → (replV ks ds x y).length = ds.length
  | [], [], _ => rfl
  | k :: ks, d :: ds, h => by unfold replV; rw [List.length_cons, replV_len x y ks ds (by simpa using h)]; rfl
  | [], _ :: _, h => by simp at h
  | _ :: _, [], h => by simp at h
theorem putV_len {ks : List κ} {ds : List α} (h : ks.length = ds.length) (k : κ) (d : α) : (putL ks k).length = (putV ks ds k d).length := by
  unfold putL putV
  split
  · rw [replV_len _ _ _ _ h, h]
  · simp [h]
theorem replV_zip (x : κ) (y : V) : ∀ (ks : List κ) (vs : List V), ks.length = vs.length → (ks.zip vs).map (fun kv => if kv.1 = x then (kv.1, y) else kv) = ks.zip (replV ks vs x y)
  | [], [], _ => rfl
  | k :: ks, d :: ds, h => by
    unfold replV
    rw [List.zip_cons_cons, List.zip_cons_cons, List.map_cons, replV_zip x y ks ds (by simpa using h)]
    congr 1
    dsimp only
    split <;> rfl
  | [], _ :: _, h => by simp at h
  | _ :: _, [], h => by simp at h
theorem put_zip {ks : List κ} {vs : List V} (h : ks.length = vs.length) (k : κ) (v : V) : putK (ks.zip vs) k v = (putL ks k).zip (putV ks vs k v) := by
  have e : ((ks.zip vs).any fun kv => decide (kv.1 = k)) = decide (k ∈ ks) := by
    rw [valV_any, look_zip]
    cases q : look ks vs k with
    | none => exact (decide_eq_false ((look_none h).mp q)).symm
    | some x =>
      have hm : k ∈ ks := Classical.byContradiction fun z => by rw [(look_none h).mpr z] at q; cases q
      rw [decide_eq_true hm]; rfl
  unfold putK putL putV
  rw [e]
  by_cases q : k ∈ ks
  · rw [if_pos (decide_eq_true q), if_pos q, if_pos q]
    exact replV_zip k v ks vs h
  · rw [if_neg (by rw [decide_eq_false q]; exact Bool.false_ne_true), if_neg q, if_neg q, List.zip_append h]
    rfl
end
section
variable {β : Bz} {M : Mh} {H : Hp} {κ : Type} [DecidableEq κ]
theorem replV_rzs (x : κ) {v : V} {d : Dv} (r : Rz β M H v d) : ∀ (ks : List κ) (vs : List V) (ds : List Dv), Rzs β M H vs ds → Rzs β M H (replV ks vs x v) (replV ks ds x d)
  | [], _, _, _ => by
    unfold replV; exact .nil
  | _ :: _, [], [], _ => .nil
  | _ :: _, [], _ :: _, h => absurd h.len (by simp)
  | _ :: _, _ :: _, [], h => absurd h.len (by simp)
  | k :: ks, u :: vs, e :: ds, h => by
    unfold replV
    refine .cons ?_ (replV_rzs x r ks vs ds h.tail)
    split
    · exact r
    · exact h.head
theorem putV_rzs (x : κ) {v : V} {d : Dv} (r : Rz β M H v d) {ks : List κ} {vs : List V} {ds : List Dv} (h : Rzs β M H vs ds) : Rzs β M H (putV ks vs x v) (putV ks ds x d) := by
  unfold putV
  split
  · exact replV_rzs x r ks vs ds h
  · exact h.snoc r
theorem look_rzs {ks : List κ} {vs : List V} {ds : List Dv} (rs : Rzs β M H vs ds) {x : κ} {o : Option Dv} (h : look ks ds x = o) : ∃ ov, valV (ks.zip vs) x = ov ∧ ov.isSome = o.isSome ∧ ∀ r, o = some r → ∃ v, ov = some v ∧ Rz β M H v r := by
  rw [look_zip]
  cases o with
  | none => exact ⟨none, look_of_none x ks ds vs rs.len.symm h, rfl, fun r e => nomatch e⟩
  | some r =>
    obtain ⟨i, a, b, c⟩ := look_get x ks ds h
    obtain ⟨v, hv, rv⟩ := rs.get b
    exact ⟨some v, (c vs).trans hv, rfl, fun r' e => by cases e; exact ⟨v, rfl, rv⟩⟩
end

def keyD : Dv → Option Key
  | .int i => some (.inl i)
  | .str z => some (.inr z)
  | _ => none
def keysD : List Dv → Option (List Key)
  | [] => some []
  | d :: ds => match keyD d, keysD ds with | some k, some ks => some (k :: ks) | _, _ => none
theorem keysD_ints : ∀ (ns : List Int), keysD (ns.map Dv.int) = some (ns.map Sum.inl)
  | [] => rfl
  | n :: ns => by rw [List.map_cons, keysD, keysD_ints ns]; rfl
def nowK (M : Mh) : Dv → Dv
  | .ptr a => match M a with | some (.dk ks ds) => .dk ks ds | some (.dt ks ds) => .dt ks ds | _ => .ptr a
  | d => d
def lookD (M : Mh) (d e : Dv) : Option (Option Dv) := match nowK M d with
  | .dk ks ds => (match keyD e with | some k => some (look ks ds k) | none => none)
  | .dt ks ds => (match e with | .tup es => (match keysD es with | some k => some (look ks ds k) | none => none) | _ => none)
  | _ => none
section
variable {X : Cx} {Γ : Gz} {β : Bz} {K : PySem.W.Frag} {M : Mh} {H : Hp}
theorem keyD_ok {y : V} {e : Dv} {k : Key} (r : Rz β M H y e) (h : keyD e = some k) : y = kV k := by
  cases e with
  | int i => cases h; exact rz_int_of r
  | str z => cases h; exact rz_str_of r
  | _ => cases h
theorem keysD_ok : ∀ {es : List Dv} {ks : List Key} {vs : List V}, Rzs β M H vs es → keysD es = some ks → vs = ks.map kV
  | [], ks, vs, rs, h => by
    cases h
    cases vs with
    | nil => rfl
    | cons _ _ => exact absurd rs.len (by simp)
  | e :: es, ks, [], rs, h => absurd rs.len (by simp)
  | e :: es, ks, v :: vs, rs, h => by
    unfold keysD at h
    split at h
    · rename_i k ks' h1 h2
      cases h
      rw [List.map_cons, keyD_ok rs.head h1, keysD_ok rs.tail h2]
    · cases h
theorem nowK_ok (m : Mz β M H) {x : V} {d : Dv} (r : Rz β M H x d) : (∀ ks ds, nowK M d = .dk ks ds → ∃ a vs, x = .ref a ∧ Rd H a (.dK (ks.zip vs)) ∧ ks.length = vs.length ∧ Rzs β M H vs ds) ∧
    (∀ ks ds, nowK M d = .dt ks ds → ∃ a vs, x = .ref a ∧ Rd H a (.dT (ks.zip vs)) ∧ ks.length = vs.length ∧ Rzs β M H vs ds) := by
  cases r with
  | dk f e hk hl h => exact ⟨fun ks ds q => (by cases q; exact ⟨_, _, rfl, e, hk, hl, h⟩), fun ks ds q => by cases q⟩
  | dt f e hk hl h => exact ⟨fun ks ds q => (by cases q), fun ks ds q => by cases q; exact ⟨_, _, rfl, e, hk, hl, h⟩⟩
  | @ptr a hs =>
    simp only [nowK]
    cases q2 : M a with
    | none => rw [q2] at hs; cases hs
    | some o =>
      have q := m.obj a o q2
      cases o with
      | dk ks ds => obtain ⟨vs, e, hk, rs⟩ := q; exact ⟨fun ks ds q => (by cases q; exact ⟨_, _, rfl, .inl e, hk, rs⟩), fun ks ds q => by cases q⟩
      | dt ks ds => obtain ⟨vs, e, hk, rs⟩ := q; exact ⟨fun ks ds q => (by cases q), fun ks ds q => by cases q; exact ⟨_, _, rfl, .inl e, hk, rs⟩⟩
      | _ => exact ⟨fun ks ds q => (by cases q), fun ks ds q => by cases q⟩
  | _ => exact ⟨fun ks ds q => (by cases q), fun ks ds q => (by cases q)⟩
theorem lookD_ok (m : Mz β M H) {x y : V} {d e : Dv} {o : Option Dv} (r : Rz β M H x d) (re : Rz β M H y e) (h : lookD M d e = some o) : ∃ a ov, x = .ref a ∧ DGet H a y ov ∧ ov.isSome = o.isSome ∧ ∀ r, o = some r → ∃ v, ov = some v ∧ Rz β M H v r := by
  unfold lookD at h
  obtain ⟨h1, h2⟩ := nowK_ok m r
  split at h
  · rename_i ks ds q
    obtain ⟨a, vs, rfl, ha, hk, rs⟩ := h1 ks ds q
    split at h
    · rename_i k hke
      rw [keyD_ok re hke]
      obtain ⟨ov, e1, e2, e3⟩ := look_rzs rs (Option.some.inj h)
      subst e1
      exact ⟨a, _, rfl, .inl ⟨_, k, ha, rfl, rfl⟩, e2, e3⟩
    · cases h
  · rename_i ks ds q
    obtain ⟨a, vs, rfl, ha, hk, rs⟩ := h2 ks ds q
    split at h
    · split at h
      · rename_i k hke
        obtain ⟨b, us, rfl, _, hb, ru⟩ := rz_tup_of re
        rw [keysD_ok ru hke] at hb
        obtain ⟨ov, e1, e2, e3⟩ := look_rzs rs (Option.some.inj h)
        subst e1
        exact ⟨a, _, rfl, .inr ⟨_, k, b, ha, rfl, hb, rfl⟩, e2, e3⟩
      · cases h
    · cases h
  · cases h

def zGetR : ZR2 := fun d e M Q => match lookD M d e with | some (some r) => Q r M | _ => False
theorem qe_dget {a b : Expr} {pa pb : ZTE} {pos : Pos} (hu : X.A.units + 64 < cLine) (ha : QE Γ X a pa) (hb : QE Γ X b pb) (hs : NoSl b) : QE Γ X (.Subscript a b pos) (zOp zGetR pa pb) :=
  (pe_dget (by omega) ha hb hs).imp fun σ H Q ⟨β, ρ, M, Q', zr, h, q⟩ => ⟨β, ρ, M, _, zr, h, fun d M1 v H1 x1 r1 h1 => ⟨β, ρ, M1, _, zr.step x1, h1, fun e M2 u H2 x2 r2 h2 => by
    unfold zGetR at h2
    split at h2
    · rename_i r hl
      obtain ⟨a, ov, rfl, g, _, e3⟩ := lookD_ok x2.mz (r1.ex x2) r2 hl
      obtain ⟨w, rfl, rw'⟩ := e3 r rfl
      exact ⟨a, w, rfl, g, q _ _ _ _ (x1.trans x2) rw' h2⟩
    · exact h2.elim⟩⟩
def zDIn (neg : Bool) : ZR2 := fun e d M Q => match lookD M d e with | some o => Q (.bl (if neg then !o.isSome else o.isSome)) M | none => False
def rDIn (neg : Bool) : R2 := fun y x H Q => ∃ a o, x = .ref a ∧ DGet H a y o ∧ Q (.bl (if neg then !o.isSome else o.isSome)) H
theorem opz_din {neg : Bool} : OpZ Γ (rDIn neg) (zDIn neg) := fun β x y d e M H Q Q' _ _ _ m rx ry z q => by
  unfold zDIn at z
  split at z
  · rename_i o hl
    obtain ⟨a, ov, rfl, g, e2, _⟩ := lookD_ok m ry rx hl
    refine ⟨a, ov, rfl, g, ?_⟩
    rw [e2]
    exact q _ _ _ _ (.refl m) (.bl _) z
  · exact z.elim
theorem q_dnotin (hu : X.A.units + 64 < cLine) : QOp Γ X (compareOp .NotIn) (zDIn true) := ⟨rDIn true, fun pins s σ H x y v u Q I rx ry ⟨a, o, e, g, q⟩ => by
  subst e
  cases (show u = Value.ref a from ry)
  exact d_notIn (by omega) I g rx fun s3 I3 => ⟨.bl (!o.isSome), H, I3, rfl, q⟩, opz_din⟩
def zMGet : ZRM := fun d ds M Q => match ds with
  | [e] => (match lookD M d e with | some o => Q (o.getD .non) M | none => False)
  | [e, z] => (match lookD M d e with | some o => Q (o.getD z) M | none => False)
  | _ => False
end
end L2

set_option Elab.async false
set_option maxRecDepth 100000
set_option maxHeartbeats 4000000
namespace L2
open PySem PySem.Spec PyProof.Rows
section
variable {β : Bz} {M : Mh} {H : Hp} {D : Addr} {o' : Mo} {u : HO}

end

section
variable {X : Cx} {pos : Pos}
end
section
variable {X : Cx} {Γ : Gz} {β : Bz} {K : PySem.W.Frag}
def zDNewK : ZTE := fun _ M Q => ∀ a, M a = none → Q (.ptr a) (updM M a (.dk [] []))
def zDNewT : ZTE := fun _ M Q => ∀ a, M a = none → Q (.ptr a) (updM M a (.dt [] []))
theorem qe_dnewT {pos : Pos} : QE Γ X (.Dict [] [] pos) zDNewT := pe_dnewT.imp fun σ H Q ⟨β, ρ, M, Q', zr, h, q⟩ p hp =>
  q _ _ _ _ (Ex.ownT (ks := []) (vs := []) (ds := []) zr.mz (.inr hp) rfl .nil) (.ptr (by rw [updM_same]; rfl)) (h p (zr.mz.free hp))

def zDisp1K (pk pv : ZTE) : ZTE := fun ρ M Q => pk ρ M fun e M1 => pv ρ M1 fun v M2 => match keyD e with | some k => ∀ a, M2 a = none → Q (.ptr a) (updM M2 a (.dk [k] [v])) | none => False
def zDisp1T (pk pv : ZTE) : ZTE := fun ρ M Q => pk ρ M fun e M1 => pv ρ M1 fun v M2 => match e with | .tup es => (match keysD es with | some k => ∀ a, M2 a = none → Q (.ptr a) (updM M2 a (.dt [k] [v])) | none => False) | _ => False
def zDPut (pd pk pv : ZTE) : ZTS := fun D ρ M => pv ρ M fun v M1 => pd ρ M1 fun d M2 => pk ρ M2 fun e M3 => match d with
  | .ptr a => (match M3 a with
    | some (.dk ks ds) => (match keyD e with | some k => ks.length < sizeLine ∧ D.nx ρ (updM M3 a (.dk (putL ks k) (putV ks ds k v))) | none => False)
    | some (.dt ks ds) => (match e with | .tup es => (match keysD es with | some k => ks.length < sizeLine ∧ D.nx ρ (updM M3 a (.dt (putL ks k) (putV ks ds k v))) | none => False) | _ => False)
    | _ => False)
  | _ => False
theorem qs_dput {o i value : Expr} {pd pk pv : ZTE} {pos pos' : Pos} (hu : X.A.units + 64 < cLine) (ho : QE Γ X o pd) (hi : QE Γ X i pk) (hv : QE Γ X value pv) (hs : swapsWith value (some (.Subscript o i pos')) pos.line X.env = pure false := by rfl) :
    QS Γ X (.Assign [.Subscript o i pos'] value pos) (zDPut pd pk pv) := (ps_dput (by omega) ho hi hv hs).imp fun D σ H ⟨β, ρ, M, D', zr, h, r⟩ => ⟨β, ρ, M, _, zr, h, fun v M1 vv H1 x1 r1 h1 => ⟨β, ρ, M1, _, zr.step x1, h1, fun d M2 dv H2 x2 r2 h2 =>
      ⟨β, ρ, M2, _, (zr.step x1).step x2, h2, fun e M3 ev H3 x3 r3 h3 => by
  have z3 := ((zr.step x1).step x2).step x3
  have x13 := x1.trans (x2.trans x3)
  have rv := (r1.ex x2).ex x3
  split at h3
  · rename_i a
    obtain ⟨rfl, hs⟩ := rz_ptr_of r2
    split at h3
    · rename_i ks ds hM
      obtain ⟨vs, ha, hk, rs⟩ := x3.mz.obj a _ hM
      split at h3
      · rename_i k hke
        obtain ⟨hl, h3⟩ := h3
        have hp : (M3 a).isSome = true := by rw [hM]; rfl
        have x4 : Ex β M3 H3 (updM M3 a (.dk (putL ks k) (putV ks ds k v))) (upd H3 a (.dK ((putL ks k).zip (putV ks vs k vv)))) := Ex.ownK x3.mz (.inl hp) (putV_len hk k vv) (putV_rzs k rv rs)
        refine ⟨a, _, rfl, .inl ⟨_, k, ha, keyD_ok r3 hke, by rw [List.length_zip, ← hk, Nat.min_self]; exact hl, rfl⟩, ?_⟩
        rw [put_zip hk]
        exact r.nx _ _ _ _ (x13.trans x4).ev (z3.step x4) h3
      · exact h3.elim
    · rename_i ks ds hM
      obtain ⟨vs, ha, hk, rs⟩ := x3.mz.obj a _ hM
      split at h3
      · split at h3
        · rename_i k hke
          obtain ⟨hl, h3⟩ := h3
          obtain ⟨b, us, rfl, _, hb, ru⟩ := rz_tup_of r3
          rw [keysD_ok ru hke] at hb
          have hp : (M3 a).isSome = true := by rw [hM]; rfl
          have x4 : Ex β M3 H3 (updM M3 a (.dt (putL ks k) (putV ks ds k v))) (upd H3 a (.dT ((putL ks k).zip (putV ks vs k vv)))) := Ex.ownT x3.mz (.inl hp) (putV_len hk k vv) (putV_rzs k rv rs)
          refine ⟨a, _, rfl, .inr ⟨_, k, b, ha, rfl, hb, by rw [List.length_zip, ← hk, Nat.min_self]; exact hl, rfl⟩, ?_⟩
          rw [put_zip hk]
          exact r.nx _ _ _ _ (x13.trans x4).ev (z3.step x4) h3
        · exact h3.elim
      · exact h3.elim
    · exact h3.elim
  · exact h3.elim⟩⟩⟩

def zLenK (d : Dv) (M : Mh) (Q : ZK) : Prop := match nowK M d with | .dk ks _ => Q (.int ks.length) M | _ => False
end
end L2

set_option Elab.async false
set_option maxRecDepth 100000
set_option maxHeartbeats 4000000
namespace L2
open PySem PySem.Spec PyProof.Rows

section
variable {X : Cx} {params : Arguments} {body : Expr} {scope : Scope} {pos : Pos} {P cX : Addr}
end
end L2

set_option Elab.async false
set_option maxRecDepth 100000
set_option maxHeartbeats 4000000
namespace L2
open PySem PySem.Spec PyProof.Rows

theorem Mod.ext {K : PySem.W.Frag} {mg : Str → Option Value} {b b' : Heap} (m : Mod K mg b) (k : ∀ a o, b.get? a = some o → b'.get? a = some o) : Mod K mg b' :=
  ⟨m.kin.keeps k, m.glob.keeps k, let ⟨mb, h1, h2⟩ := m.blt; ⟨mb, h1.keeps k, h2⟩, m.nolimit.keeps k⟩
section
variable {X : Cx} {pins : List (Addr × Obj)} {σ : St} {H : Hp} {s : Shared}
end
section
variable {X : Cx} {CX : CXT} {k : Nat} {f : Addr} {fd : FuncData} {ps : List Str} {dvs : List V} {ds : List Value} {E : XK} {x : Str} {p pos : Pos} {e : Expr} {es : List Expr} {t : TA}
end

section
variable {CX : CXT} {P : Program} {w : World} {K : PySem.W.Frag} {mg : Str → Option Value} {base : Heap} {ps fs : List Str} {qual : Str} {scope : Scope} {f c : Addr} {clos : List (Str × Addr)} {A : Around} {outer : List Env} {s : Shared} {H : Hp} {E : XK} {us : List Value} {vs vcs : List V}
end
end L2

set_option Elab.async false
set_option maxRecDepth 100000
set_option maxHeartbeats 4000000
namespace L2
open PySem PySem.Spec PySem.W PyProof.Rows

structure DfD (K : PySem.W.Frag) (mg : Str → Option Value) (x : Str) (st : Stmt) (ps : List Str) (ds : List Value) (f : Addr) (fd : FuncData) : Prop where
  ex : ∃ (oc : Value) (od : Option Addr) (dV kV doc pm : Value) (an : Option Addr) (cdv ct : Value) (osl : Array (Option Value)),
    fd = PySem.W.fnOf x x (defArgs st) (defBody st) (defScope st) dV kV doc pm an cdv ct ∧ K.lookup f = some ⟨oc, od, .func fd, osl⟩ ∧ PySem.W.codeIn K cdv x = true
  kp : PySem.W.keepIn K (.ref f) = true
  bd : Binds K fd ps ds
  bd0 : Binds K fd ps []
  mg : mg x = some (.ref f)
section
variable {P : Program} {w : World} {K : PySem.W.Frag} {mg : Str → Option Value} {base : Heap} {tb : Tbs} {x : Str} {st : Stmt} {f : Addr} {fd : FuncData} {N ps : List Str} {dvs : List Value} {k : Nat} {S : ZSp}
end

section
variable {X : Cx} {Γ : Gz} {β : Bz} {CX : CXT} {k : Nat} {f : Addr} {fd : FuncData} {ps : List Str} {E : XK} {E' : ZX} {x : Str} {p pos : Pos} {e : Expr} {es : List Expr} {za : ZTA} {P : Program} {w : World} {tb : Tbs} {K : PySem.W.Frag}
def zCallL (f : Addr) (o : Obj) (c : Addr) (oc : Obj) (vcs : List V) (S : List Dv → ZSp) (E' : ZX) (i : Nat) (za : ZTA) : ZTE := fun ρ M Q => match ρ[i]? with
  | some (some (.clo f' o' c' oc' vcs' dcs)) => (f' = f ∧ o' = o ∧ c' = c ∧ oc' = oc ∧ vcs' = vcs) ∧ za ρ M fun ds M1 => S dcs ds M1 Q E'
  | _ => False
end

section
variable {X : Cx} {Γ : Gz} {β : Bz} {CX : CXT} {k : Nat} {f : Addr} {fd : FuncData} {ps : List Str} {E : XK} {E' : ZX} {x : Str} {p pos lpos : Pos} {e1 e2 : Expr} {rest : List Expr} {z1 z2 : ZTE} {zr : ZTA} {P : Program} {w : World} {tb : Tbs} {K : PySem.W.Frag}

end
end L2

set_option Elab.async false
set_option maxRecDepth 100000
set_option maxHeartbeats 4000000
namespace L2
open PySem PySem.Spec PyProof.Rows
theorem law_callL {P : Program} {w : World} {K : PySem.W.Frag} {mg mb : Str → Option Value} {CX : CXT} {k : Nat} {fa a : Addr} {fd : FuncData} {x : Str} {sp : Sp} {s₁ : Shared} {vs : List Value} {ns : List Int} {tabs lts : List Addr}
    (KX : K.In s₁.heap) (hns : s₁.heap.Ns mainGlobals mg) (hb : s₁.heap.Ns builtinsNs mb) (hbb : ∀ x : Str, x ≠ "__name__" → mb x = bootBuiltins x) (hlim : s₁.heap.NoLimit) (hg : s₁.gens = #[])
    (ha : s₁.heap.get? a = some { cls := .type "list", data := .seq vs.toArray }) (hi : IntsAre vs ns) (hl : ns.length ≤ sizeLine) (hr : Room k callerA)
    (htab : ∀ p ∈ tabs ++ lts, s₁.heap.get? p = some (PySem.W.tabObj #[]) ∧ isCodeTable s₁.heap p) (hdis : ∀ p ∈ tabs, p ∉ lts) (hKc : PySem.W.kb_classed K = true) (hbm : ∃ bm ob, BMod s₁.heap mainGlobals mg bm ob)
    (F : ∀ base : Heap, K.In base → base.Ns mainGlobals mg → (∃ bm ob, BMod base mainGlobals mg bm ob) → (∀ c p, PySem.W.CodeHd s₁.heap c p → PySem.W.CodeHd base c p) → FnOk P w K mg base CX k fa fd [x] sp)
    (hbind : ∀ (s : Shared) (u : Value), BindsTo s fd ⟨[u], []⟩ [(x, u)])
    (hsp : ∀ H : Hp, (∀ p ∈ tabs, Tb p H) → (∀ p ∈ lts, H p = some (.lam #[])) → SqL K H a (ns.map V.int) → sp [.ref a] H (fun v H' => v = .bl true ∧ ∀ p ∈ lts, ∃ ps, H' p = some (.lam ps)) fun _ _ _ => False)
    (hCX : ∀ H e s', CX [] H s₁ (fun _ _ _ => False) e s' → False) :
    codeAny (model P w) callerA (.call (.ref fa) ⟨[.ref a], []⟩) (fun r s' => r = .ok (.ret (.bool true)) ∧ OldK s₁.heap s'.heap ∧ s'.os = s₁.os ∧ AllBare s'.gens) s₁ := by
  have rv := vals_ints hi
  have lenV := hi.length
  have hat : a ∉ tabs ++ lts := fun z => by
    have e := (htab a z).1
    rw [ha] at e
    cases e
  have core : ∀ H : Hp, (∀ b u, H b = some u → (b = a ∧ ∃ o xs, u = .frz o (.lst xs)) ∨ (b ∈ tabs ++ lts ∧ (u = .tbl #[] ∧ b ∈ tabs ∨ u = .lam #[] ∧ b ∈ lts))) → (∀ p ∈ tabs, H p = some (.tbl #[])) → (∀ p ∈ lts, H p = some (.lam #[])) → SqL K H a (ns.map V.int) → HOk P w H s₁.heap → (H a ≠ none → K.lookup a = none) →
      codeAny (model P w) callerA (.call (.ref fa) ⟨[.ref a], []⟩) (fun r s' => r = .ok (.ret (.bool true)) ∧ OldK s₁.heap s'.heap ∧ s'.os = s₁.os ∧ AllBare s'.gens) s₁ := by
    intro H hO hTb hLm hS hok hK
    have base_of : ∀ {b : Addr} {o : Obj}, s₁.heap.get? b = some o → H b = none → (hidT s₁.heap H).get? b = some o := fun e n => hidT_get e n
    have no : ∀ {b : Addr} {o : Obj}, s₁.heap.get? b = some o → (∀ n, o.data ≠ .seq vs.toArray n) → o ≠ PySem.W.tabObj #[] → H b = none := fun {b o} e d1 d2 => by
      cases q : H b with
      | none => rfl
      | some u =>
        rcases hO b u q with ⟨e', _⟩ | ⟨hb', _⟩
        · subst e'
          rw [ha] at e; cases e
          exact absurd rfl (d1 _)
        · rw [(htab b hb').1] at e
          exact absurd (Option.some.inj e).symm d2
    have noD : ∀ {b : Addr} {o : Obj} {es : Array DictEntry} {ep : Nat}, s₁.heap.get? b = some o → o.data = .dict es ep → H b = none := fun {b o es ep} e d => no e (fun n z => by rw [d] at z; cases z) fun z => by rw [z] at d; cases d
    have nsK : ∀ {b : Addr} {m : Str → Option Value}, s₁.heap.Ns b m → (hidT s₁.heap H).Ns b m := fun {b m} ⟨o, es, ep, e, d, r⟩ => ⟨o, es, ep, base_of e (noD e d), d, r⟩
    have hKb : K.In (hidT s₁.heap H) := fun b o e => base_of (KX b o e) (by
      cases q : H b with
      | none => rfl
      | some u =>
        rcases hO b u q with ⟨e', _⟩ | ⟨hb', _⟩
        · subst e'
          rw [hK (by rw [q]; simp)] at e; cases e
        · have e1 := KX b o e
          have e2 := (htab b hb').1
          rw [e1] at e2
          have e3 : o = PySem.W.tabObj #[] := Option.some.inj e2
          have q2 := List.all_eq_true.mp hKc (b, o) (PySem.W.kb_mem e)
          simp only [Bool.or_eq_true, decide_eq_true_eq, beq_iff_eq] at q2
          rcases q2 with (q2 | q2) | q2
          · rw [e3] at q2; exact absurd rfl q2
          · obtain ⟨mc, ⟨oc, es, ep, ho, hd, _⟩, _⟩ := hlim
            rw [← q2, e1] at ho
            cases ho
            rw [e3] at hd; cases hd
          · obtain ⟨oc, es, ep, ho, hd, _⟩ := id hns
            rw [← q2, e1] at ho
            cases ho
            rw [e3] at hd; cases hd)
    have hM : Mod K mg (hidT s₁.heap H) := ⟨hKb, nsK hns, ⟨mb, nsK hb, hbb⟩, let ⟨mc, h1, h2⟩ := hlim; ⟨mc, nsK h1, h2⟩⟩
    have hB : ∃ bm ob, BMod (hidT s₁.heap H) mainGlobals mg bm ob := by
      obtain ⟨bm, ob, B⟩ := hbm
      exact ⟨bm, ob, nsK B.ns, B.name, B.ne, base_of B.obj (no B.obj (fun n z => by rw [B.data] at z; cases z) fun z => by have := B.data; rw [z] at this; cases this), B.cls, B.dict, B.data⟩
    have hC : ∀ c p, PySem.W.CodeHd s₁.heap c p → PySem.W.CodeHd (hidT s₁.heap H) c p := fun c p ⟨o, vs', file, tf, flags, tg, inF, text, tt, e1, e2, e3, r⟩ =>
      ⟨o, vs', file, tf, flags, tg, inF, text, tt, base_of e1 (no e1 (fun n z => by rw [e3] at z; cases z) fun z => by rw [z] at e2; cases e2), e2, e3, r⟩
    have e0 : Env0 P w K mg (hidT s₁.heap H) callerA [] s₁ H := ⟨rfl, hM, fun b o e => of_hidT e, Nat.le_of_eq (hidT_size _ _), trivial, fun b hb => absurd (show b ∈ ([] : List Addr) from hb) (by simp), hok, .of_eq hg⟩
    refine codeAny_mono ((F _ hKb (nsK hns) hB hC).run callerA [] s₁ H ⟨[.ref a], []⟩ [.ref a] [.ref a] _ _ hr e0 (hbind s₁ (.ref a)) (.cons rfl .nil) (hsp H (fun p hp => ⟨#[], hTb p hp, trivial⟩) hLm hS)) fun r s' h => ?_
    cases r with
    | error e => exact (hCX H e s' h).elim
    | ok fl =>
      cases fl with
      | next => exact False.elim h
      | brk => exact False.elim h
      | cont => exact False.elim h
      | ret u =>
        obtain ⟨v, H', os, bare, un, hok', r', q⟩ := h
        obtain ⟨q', qL⟩ := q
        subst q'
        obtain rfl : u = Value.bool true := r'
        have all : ∀ b o, s₁.heap.get? b = some o → asItWas s₁.heap s'.heap b o ∧ ∃ o', s'.heap.get? b = some o' := fun b o e => by
          cases q : H b with
          | none =>
            have := un.keep b o e q (by intro z; exact absurd (show b ∈ ([] : List Addr) from z) (by simp)) (by simp)
            exact ⟨.inl this, _, this⟩
          | some u =>
            rcases hO b u q with ⟨_, ob, xs, z⟩ | ⟨hb', z⟩
            · subst z
              have z2 := un.frzs b ob _ q
              obtain ⟨e1, _⟩ := hok b _ q
              obtain ⟨e2, _⟩ := hok' b _ z2
              rw [e] at e1; cases e1
              exact ⟨.inl e2, _, e2⟩
            · have e2 : ∃ more, s'.heap.get? b = some { cls := .none, data := .fields (#[] ++ more) } := by
                rcases z with ⟨z, _⟩ | ⟨z, hb2⟩
                · subst z
                  obtain ⟨more, z2⟩ := un.tbls b #[] q
                  exact ⟨more, hok' b _ z2⟩
                · obtain ⟨ps, z2⟩ := qL b hb2
                  refine ⟨ps, ?_⟩
                  have := hok' b _ z2
                  rw [show (#[] : Array Value) ++ ps = ps by simp]
                  exact this
              obtain ⟨more, e2⟩ := e2
              have e1 := (htab b hb').1
              rw [e] at e1
              obtain rfl : o = PySem.W.tabObj #[] := Option.some.inj e1
              exact ⟨.inr (.inl ⟨(htab b hb').2, rfl, #[], more, rfl, e2⟩), _, e2⟩
        exact ⟨rfl, ⟨fun b o e => (all b o e).1, fun b o e => (all b o e).2⟩, os, bare.1⟩
  have tbOk : ∀ p ∈ tabs ++ lts, ∀ H : Hp, ∀ u, (u = .tbl #[] ∧ p ∈ tabs ∨ u = .lam #[] ∧ p ∈ lts) → ObjOk P w H s₁.heap p u := fun p hp H u hu => by
    rcases hu with ⟨rfl, _⟩ | ⟨rfl, _⟩ <;> exact (htab p hp).1
  let T : Hp := fun b => if b ∈ lts then some (.lam #[]) else if b ∈ tabs then some (.tbl #[]) else none
  have T1 : ∀ b u, T b = some u → b ∈ tabs ++ lts ∧ (u = .tbl #[] ∧ b ∈ tabs ∨ u = .lam #[] ∧ b ∈ lts) := fun b u z => by
    by_cases h1 : b ∈ lts
    · have z' := (show T b = _ from if_pos h1).symm.trans z
      cases z'
      exact ⟨List.mem_append_right _ h1, .inr ⟨rfl, h1⟩⟩
    · by_cases h2 : b ∈ tabs
      · have z' := (show T b = _ from (if_neg h1).trans (if_pos h2)).symm.trans z
        cases z'
        exact ⟨List.mem_append_left _ h2, .inl ⟨rfl, h2⟩⟩
      · have z' := (show T b = _ from (if_neg h1).trans (if_neg h2)).symm.trans z
        cases z'
  have T2 : ∀ p ∈ tabs, T p = some (.tbl #[]) := fun p hp => (if_neg (hdis p hp)).trans (if_pos hp)
  have T3 : ∀ p ∈ lts, T p = some (.lam #[]) := fun p hp => if_pos hp
  have Ta : T a = none := (if_neg fun z => hat (List.mem_append_right _ z)).trans (if_neg fun z => hat (List.mem_append_left _ z))
  cases hk : K.lookup a with
  | some o =>
    have e := KX a o hk
    rw [ha] at e
    cases e
    exact core T (fun b u z => .inr (T1 b u z)) T2 T3 (.inr ⟨_, vs.toArray, _, hk, rfl, rfl, rfl, by rw [List.size_toArray, lenV]; exact hl, by simpa using rv⟩) (fun b u z => tbOk b (T1 b u z).1 _ u (T1 b u z).2) fun z => absurd Ta z
  | none =>
    have na : ∀ p ∈ tabs ++ lts, p ≠ a := fun p hp z => hat (z ▸ hp)
    refine core (upd T a (.frz { cls := .type "list", data := .seq vs.toArray } (.lst (ns.map V.int)))) (fun b u z => ?_) (fun p hp => by rw [upd_ne (na p (List.mem_append_left _ hp))]; exact T2 p hp) (fun p hp => by rw [upd_ne (na p (List.mem_append_right _ hp))]; exact T3 p hp) (.inl (.inr ⟨_, upd_same⟩)) (fun b u z => ?_) fun _ => hk
    · by_cases hb : b = a
      · subst hb
        rw [upd_same] at z
        cases z
        exact .inl ⟨rfl, _, _, rfl⟩
      · rw [upd_ne hb] at z
        exact .inr (T1 b u z)
    · by_cases hb : b = a
      · subst hb
        rw [upd_same] at z
        cases z
        exact ⟨ha, by rw [List.length_map]; exact hl, vs, _, rv, ha⟩
      · rw [upd_ne hb] at z
        exact tbOk b (T1 b u z).1 _ u (T1 b u z).2

def tabNo (K : PySem.W.Frag) (x : Str) : Option Addr := match PySem.W.nsIn K mainGlobals x with
  | some (some (.ref f)) => (match K.lookup f with
    | some ⟨_, _, .func fd, _⟩ => (match fd.code with
      | .ref c => (match K.lookup c with
        | some ⟨_, _, .fields vs, _⟩ => (match vs[11]? with | some (Value.ref p) => some p | _ => none)
        | _ => none)
      | _ => none)
    | _ => none)
  | _ => none
abbrev TabOf (mg : Str → Option Value) (h : Heap) (y : Str) (p : Addr) : Prop := ∃ f o fd c, mg y = some (.ref f) ∧ h.get? f = some o ∧ o.data = .func fd ∧ fd.code = .ref c ∧ PySem.W.CodeHd h c p
theorem tabNo_is {K : PySem.W.Frag} {mg : Str → Option Value} {h : Heap} {y : Str} {p q : Addr} (X : K.In h) (G : h.Ns mainGlobals mg) (t : TabOf mg h y p) (e : tabNo K y = some q) : p = q := by
  obtain ⟨f, o, fd, c, e1, e2, e3, e4, oc, vs, _, _, _, _, _, _, _, g1, _, g3, g4, _⟩ := t
  unfold tabNo at e
  split at e
  · rename_i f' hns
    have := (PySem.W.mg_of X G hns).symm.trans e1
    cases this
    split at e
    · rename_i oc' od' fd' sl' hlk
      have := (X _ _ hlk).symm.trans e2
      cases this
      cases e3
      rw [e4] at e
      dsimp only at e
      split at e
      · rename_i a1 a2 vs' a3 hlc
        have := (X _ _ hlc).symm.trans g1
        cases this
        cases g3
        rw [g4] at e
        cases e
        rfl
      · cases e
    · cases e
  · cases e
def tabsDis (K : PySem.W.Frag) (gs ls : List Str) : Bool := gs.all fun x => ls.all fun y => match tabNo K x, tabNo K y with | some p, some q => decide (p ≠ q) | _, _ => false
theorem pairedB {α β : Type} {F : α → β → Prop} {l : List α} {m : List β} (h : Paired F l m) {b : β} (hb : b ∈ m) : ∃ a ∈ l, F a b := by
  induction h with
  | nil => simp at hb
  | cons x t ih =>
    rcases List.mem_cons.mp hb with e | e
    · subst e; exact ⟨_, List.mem_cons_self, x⟩
    · obtain ⟨a, ha, q⟩ := ih e
      exact ⟨a, List.mem_cons_of_mem _ ha, q⟩
theorem tabs_dis {K : PySem.W.Frag} {mg : Str → Option Value} {h : Heap} {gs ls : List Str} {tabs lts : List Addr} (X : K.In h) (G : h.Ns mainGlobals mg) (d : tabsDis K gs ls = true) (t1 : Paired (TabOf mg h) gs tabs) (t2 : Paired (TabOf mg h) ls lts) : ∀ p ∈ tabs, p ∉ lts := fun p hp hq => by
  obtain ⟨x, hx, tx⟩ := pairedB t1 hp
  obtain ⟨y, hy, ty⟩ := pairedB t2 hq
  have := List.all_eq_true.mp (List.all_eq_true.mp d x hx) y hy
  split at this
  · rename_i p' q' e1 e2
    have a := tabNo_is X G tx e1
    have b := tabNo_is X G ty e2
    exact (of_decide_eq_true this) (a.symm.trans b)
  · cases this

theorem walk_ofL {l : PySem.W.OpenLaw} {n k : Nat} {q : Program} {loose : List Str} {XP : (Str → Option Value) → Heap → Prop} {YP : World → Heap → Prop} {d : DefRec} {K : Params → PySem.W.Frag} {CX : CXT} {sp : PySem.W.Frag → List Addr → List Addr → Sp} {x : Str} {nms lns : List Str}
    (hn : l.most = some n) (hn2 : n ≤ sizeLine) (hdf : d.params.defaults = []) (hr : Room k callerA) (hKc : ∀ w : World, PySem.W.kb_classed (K w.params) = true)
    (hnm : ∀ y ∈ nms ++ lns, ∃ r ∈ recsOf q, r.name = y) (hdt : ∀ w : World, tabsDis (K w.params) nms lns = true)
    (hY : ∀ (w : World) (h : Heap), YP w h → (K w.params).In h)
    (F : ∀ (w : World) (mg : Str → Option Value) (fa : Addr) (h : Heap) (tabs lts : List Addr), (K w.params).In h → h.Ns mainGlobals mg → mg d.name = some (.ref fa) →
      Paired (TabOf mg h) nms tabs → Paired (TabOf mg h) lns lts →
      ∃ fd : FuncData, (∀ (s : Shared) (u : Value), BindsTo s fd ⟨[u], []⟩ [(x, u)]) ∧
        ∀ base : Heap, (K w.params).In base → base.Ns mainGlobals mg → (∃ bm ob, BMod base mainGlobals mg bm ob) → (∀ c p, PySem.W.CodeHd h c p → PySem.W.CodeHd base c p) → FnOk l.prog w (K w.params) mg base CX k fa fd [x] (sp (K w.params) tabs lts))
    (hsp : ∀ (K : PySem.W.Frag) (tabs lts : List Addr) (H : Hp) (a : Addr) (ns : List Int), lts.length = lns.length → ns.length ≤ n → (∀ p ∈ tabs, Tb p H) → (∀ p ∈ lts, H p = some (.lam #[])) → SqL K H a (ns.map V.int) → sp K tabs lts [.ref a] H (fun v H' => v = .bl true ∧ ∀ p ∈ lts, ∃ ps, H' p = some (.lam ps)) fun _ _ _ => False)
    (hCX : ∀ (H : Hp) (s : Shared) (e : Value) (s' : Shared), CX [] H s (fun _ _ _ => False) e s' → False) :
    PySem.W.WalkO q loose XP YP l.row.toRowW d [] (fun f vs => PySem.call f vs) := by
  refine Att.attach_call hn hdf fun w s₀ s₁ mg mb fa o pm cd doc a vs ns G Y ho hd hcd hmg hobj hints hlen hg => ?_
  have KX := hY w _ Y
  have tb : ∀ nms : List Str, (∀ y ∈ nms, ∃ r ∈ recsOf q, r.name = y) → ∃ tabs, Paired (TabOf mg s₁.heap) nms tabs ∧ ∀ p ∈ tabs, s₁.heap.get? p = some (PySem.W.tabObj #[]) ∧ isCodeTable s₁.heap p := by
    intro nms
    induction nms with
    | nil => intro _; exact ⟨[], .nil, fun p hp => absurd hp (by simp)⟩
    | cons y r ih =>
      intro hm
      obtain ⟨tabs, h1, h2⟩ := ih fun z hz => hm z (List.mem_cons_of_mem _ hz)
      obtain ⟨rr, hrr, e⟩ := hm y List.mem_cons_self
      obtain ⟨f, o', fd, c, p, a1, a2, a3, a4, a5, a6⟩ := G.T.tab rr hrr
      rw [e] at a1
      refine ⟨p :: tabs, .cons ⟨f, o', fd, c, a1, a2, a3, a4, .of a5 a6⟩ h1, fun z hz => ?_⟩
      rcases List.mem_cons.mp hz with rfl | hz
      · exact ⟨a6.2, a6.isCodeTable⟩
      · exact h2 z hz
  obtain ⟨tabs, t1, t2⟩ := tb nms fun y hy => hnm y (List.mem_append_left _ hy)
  obtain ⟨lts, u1, u2⟩ := tb lns fun y hy => hnm y (List.mem_append_right _ hy)
  obtain ⟨fd, hb, hF⟩ := F w mg fa _ tabs lts KX G.T.g hmg t1 u1
  exact law_callL (lts := lts) KX G.T.g G.T.b G.T.builtins G.T.nolimit hg hobj hints (Nat.le_trans hlen hn2) hr (fun p hp => (List.mem_append.mp hp).elim (t2 p) (u2 p)) (tabs_dis KX G.T.g (hdt w) t1 u1) (hKc w) (PySem.W.bmod_of_top G.T) hF hb (fun H hO hL hS => hsp _ tabs lts H a ns (Paired.length u1).symm hlen hO hL hS) fun H e s' => hCX H s₁ e s'

abbrev DefInD (K : PySem.W.Frag) (x : Str) (st : Stmt) (dv : Value) : Prop :=
  ∃ (f : Addr) (oc : Value) (od : Option Addr) (sl : Array (Option Value)) (T : Addr) (oT : Obj) (nT : Nat) (kV dc pm : Value) (an : Option Addr) (cd ct : Value),
    PySem.W.nsIn K mainGlobals x = some (some (.ref f)) ∧ K.lookup f = some ⟨oc, od, .func (PySem.W.fnOf x x (defArgs st) (defBody st) (defScope st) (.ref T) kV dc pm an cd ct), sl⟩ ∧ PySem.W.codeIn K cd x = true ∧ PySem.W.keepIn K (.ref f) = true ∧ K.lookup T = some oT ∧ oT.data = .seq #[dv] nT
theorem DefInD.df {K : PySem.W.Frag} {mg : Str → Option Value} {h : Heap} {x : Str} {st : Stmt} {dv : Value} (d : DefInD K x st dv) (X : K.In h) (G : h.Ns mainGlobals mg) (ps : List Str)
    (hb : ∀ (T : Addr) (kV doc pm : Value) (an : Option Addr) (cdv ct : Value) (us : List Value), us.length + 1 = ps.length → ∃ k, bindArgs (PySem.W.fnOf x x (defArgs st) (defBody st) (defScope st) (.ref T) kV doc pm an cdv ct) ⟨us, []⟩ = seqItems? (.ref T) >>= k ∧ k (some #[dv]) = pure (ps.zip (us ++ [dv])))
    (hb0 : ∀ (T : Addr) (kV doc pm : Value) (an : Option Addr) (cdv ct : Value) (us : List Value), us.length = ps.length → ∃ k, bindArgs (PySem.W.fnOf x x (defArgs st) (defBody st) (defScope st) (.ref T) kV doc pm an cdv ct) ⟨us, []⟩ = seqItems? (.ref T) >>= k ∧ k (some #[dv]) = pure (ps.zip us)) :
    ∃ f fd, DfD K mg x st ps [dv] f fd := by
  obtain ⟨f, oc, od, sl, T, oT, nT, kV, dc, pm, an, cd, ct, a, l, c, k, t, u⟩ := d
  refine ⟨f, _, ⟨oc, od, .ref T, kV, dc, pm, an, cd, ct, sl, rfl, l, c⟩, k, fun s us hK hl => ?_, fun s us hK hl => ?_, PySem.W.mg_of X G a⟩
  · obtain ⟨kk, h1, h2⟩ := hb T kV dc pm an cd ct us (by rw [List.length_append] at hl; exact hl)
    exact PySem.W.binds_K hK rfl t u h1 h2
  · rw [List.append_nil] at hl ⊢
    obtain ⟨kk, h1, h2⟩ := hb0 T kV dc pm an cd ct us hl
    exact PySem.W.binds_K hK rfl t u h1 h2

theorem spLaw_of {K : PySem.W.Frag} {tabs lts : List Addr} {qs : List Str} {H : Hp} {a : Addr} {ns : List Int} (hl : lts.length = qs.length) (hn : ns.length ≤ 63) (hT : ∀ p ∈ tabs, Tb p H) (hL : ∀ p ∈ lts, H p = some (.lam #[])) (hS : SqL K H a (ns.map V.int)) :
    spLaw K ⟨tabs, lts.zip qs⟩ [.ref a] H (fun v H' => v = .bl true ∧ ∀ p ∈ lts, ∃ ps, H' p = some (.lam ps)) fun _ _ _ => False :=
  ⟨a, ns, rfl, hS, hn, hT, fun p hp => ⟨#[], hL p.1 (List.of_mem_zip hp).1, trivial, fun pos cv e => nomatch e⟩, fun H' h => ⟨rfl, fun p hp => by
    obtain ⟨i, hi⟩ := List.mem_iff_getElem?.mp hp
    have h1 := (List.getElem?_eq_some_iff.mp hi).1
    exact h (p, qs[i]) (List.mem_of_getElem? (i := i) (List.getElem?_zip_eq_some.mpr ⟨hi, List.getElem?_eq_getElem (by omega)⟩))⟩⟩
end L2

set_option Elab.async false
set_option maxRecDepth 100000
set_option maxHeartbeats 4000000
namespace L2
open PySem PySem.Spec PyProof.Rows

section
variable {prog : Program} {w : World} {A : Around} {E : Value → Shared → Prop} {s : Shared} {d it : Addr} {es : Array DictEntry} {ep i : Nat}
end
end L2

set_option Elab.async false
set_option maxRecDepth 100000
set_option maxHeartbeats 4000000
namespace L2
open PySem PySem.Spec PyProof.Rows

def KvRel (es : Array DictEntry) (ps : List (V × V)) : Prop := es.size = ps.length ∧ ∀ (i : Nat) (p : V × V), ps[i]? = some p → ∃ hi : i < es.size, RelV p.1 es[i].key ∧ RelV p.2 es[i].val

inductive PsOf (H : Hp) : HO → List (V × V) → Prop where
  | k (kvs : List (Key × V)) : PsOf H (.dK kvs) (kvs.map fun kv => (kV kv.1, kv.2))
  | t (kvs : List (List Key × V)) (bs : List Addr) (hl : bs.length = kvs.length) (h : ∀ (i : Nat) (b : Addr) (kv : List Key × V), bs[i]? = some b → kvs[i]? = some kv → H b = some (.tup (kv.1.map kV))) : PsOf H (.dT kvs) ((bs.map V.ref).zip (kvs.map (·.2)))
theorem relV_key {P : Program} {w : World} {k : Key} {u : Value} (h : (mixKind P w).is k u = true) : RelV (kV k) u := by
  rcases keyIs_shape (k := k) (v := u) h with ⟨i, t, rfl, rfl⟩ | ⟨x, t, rfl, rfl⟩
  · exact ⟨t, rfl⟩
  · exact ⟨t, rfl⟩
theorem paired_at {α β : Type} {F : α → β → Prop} : ∀ {l : List α} {m : List β} {i : Nat} {a : α}, Paired F l m → l[i]? = some a → ∃ b, m[i]? = some b ∧ F a b
  | _, _, _, _, .nil, h => by simp at h
  | _, _, 0, _, .cons x _, h => by simp at h; subst h; exact ⟨_, rfl, x⟩
  | _, _, i + 1, _, .cons _ t, h => by obtain ⟨b, e, q⟩ := paired_at (i := i) t (by simpa using h); exact ⟨b, by simpa using e, q⟩
section
variable {P : Program} {w : World} {H : Hp} {h : Heap} {a : Addr} {u : HO}
structure Rows (H : Hp) (h : Heap) (a : Addr) (u : HO) (o : Obj) (es : Array DictEntry) (ep : Nat) (ps : List (V × V)) : Prop where
  obj : h.get? a = some o
  cls : o.cls = .type "dict"
  dict : o.dict = none
  data : o.data = .dict es ep
  lo : (a == sysModules) = false
  rel : KvRel es ps
  ps : PsOf H u ps
theorem rows_of (ok : HOk P w H h) (e : Rd H a u) (hu : dicB u = true) : ∃ o es ep ps, Rows H h a u o es ep ps := by
  have q := e.ok ok
  cases u with
  | dK kvs =>
    obtain ⟨z, lo, vs, rel, o, es, ep, g, x, dt, hk, hp, hn⟩ := q
    refine ⟨o, es, ep, _, g, x.1, x.2.1, dt, lo, ⟨?_, fun i p hi => ?_⟩, .k kvs⟩
    · have h1 := hp.length
      have h2 := rel.length
      simp only [List.length_map, Array.length_toList] at h1 ⊢
      omega
    · rw [List.getElem?_map, Option.map_eq_some_iff] at hi
      obtain ⟨kv, hkv, rfl⟩ := hi
      obtain ⟨⟨k', v'⟩, hv, e1, e2⟩ := paired_at rel hkv
      have hl : i < es.size := by
        have h1 := hp.length
        have h2 := (List.getElem?_eq_some_iff.mp hv).1
        simp only [Array.length_toList] at h1
        omega
      obtain ⟨a1, a2⟩ := hp.get? (e := es[i]) (by simp [hl]) hv
      refine ⟨hl, ?_, ?_⟩
      · rw [e1]; exact relV_key a1
      · rw [a2]; exact e2
  | dT kvs =>
    obtain ⟨z, lo, xs, rel, o, es, ep, g, x, dt, he, hn⟩ := q
    have hlx : kvs.length = xs.length := Paired.length rel
    have hes : es.size = xs.length := by
      have := congrArg List.length he
      simpa using this
    refine ⟨o, es, ep, _, g, x.1, x.2.1, dt, lo, ⟨?_, fun i p hi => ?_⟩, .t kvs (xs.map (·.2.1)) (by rw [List.length_map]; exact hlx.symm) fun i b kv hb hkv => ?_⟩
    · simp only [List.length_zip, List.length_map]; omega
    · rw [List.getElem?_zip_eq_some, List.map_map, List.getElem?_map, List.getElem?_map, Option.map_eq_some_iff, Option.map_eq_some_iff] at hi
      obtain ⟨⟨x1, hx1, e1⟩, ⟨kv, hkv, e2⟩⟩ := hi
      obtain ⟨x2, hx2, _, _, r⟩ := paired_at rel hkv
      rw [hx1] at hx2
      cases hx2
      have hl : i < es.size := by rw [hes]; exact (List.getElem?_eq_some_iff.mp hx1).1
      have hei : es[i] = entryOfKey (tupleKind (mixKind P w)) x1 := by
        have : es.toList[i]? = some (entryOfKey (tupleKind (mixKind P w)) x1) := by rw [he, List.getElem?_map, hx1]; rfl
        rw [Array.getElem?_toList, Array.getElem?_eq_getElem hl] at this
        exact Option.some.inj this
      refine ⟨hl, ?_, ?_⟩
      · rw [hei, ← e1]; rfl
      · rw [hei, ← e2]; exact r
    · rw [List.getElem?_map, Option.map_eq_some_iff] at hb
      obtain ⟨x1, hx1, rfl⟩ := hb
      obtain ⟨x2, hx2, e1, e2, _⟩ := paired_at rel hkv
      rw [hx1] at hx2
      cases hx2
      exact e2
  | _ => cases hu
end

inductive FrzStep (a : Addr) (o : Obj) (u : HO) (H : Hp) : Hp → Prop where
  | now (e : H a = some u) (hu : dicB u = true) : FrzStep a o u H (upd H a (.frz o u))
  | was (e : H a = some (.frz o u)) : FrzStep a o u H H
theorem FrzStep.at {a : Addr} {o : Obj} {u : HO} {H H2 : Hp} (f : FrzStep a o u H H2) : H2 a = some (.frz o u) := by
  cases f with
  | now e hu => exact upd_same
  | was e => exact e
section
variable {X : Cx} {pins : List (Addr × Obj)} {σ : St} {H : Hp} {s : Shared} {a : Addr} {o : Obj} {u : HO}
theorem Inv.frz (I : Inv X pins σ H s) (e : H a = some u) (hu : dicB u = true) (ho : s.heap.get? a = some o) : Inv X pins σ (upd H a (.frz o u)) s := by
  have nT : ∀ b v, H b = some v → dicB v = false → b ≠ a := fun b v q n z => by rw [z, e] at q; cases q; rw [hu] at n; cases n
  have n0 : ∀ b, H b = none → b ≠ a := fun b q z => by rw [z, e] at q; cases q
  have J := I.un (t' := s.toks) (h' := s.heap) (H' := upd H a (.frz o u)) ⟨fun b v q n _ _ => q, fun b v q n _ _ => ⟨v.slots, q⟩, fun b v q n _ => by rw [upd_ne (n0 b n)]; exact n, fun b v q _ => ⟨v, q⟩, fun b xs q => by rw [upd_ne (nT b _ q rfl)]; exact q,
    fun b v xs q => by rw [upd_ne (nT b _ q rfl)]; exact q, fun b qs q => ⟨#[], by rw [upd_ne (nT b _ q rfl), q]; simp⟩⟩ fun b v q => ?_
  · exact J
  · by_cases hb : b = a
    · subst hb
      rw [upd_same] at q; cases q
      exact ⟨ho, (I.hok b u e).stay (fun _ _ _ z => z) (fun c z => by rw [upd_ne (nT c _ z rfl)]; exact z) fun c xs z => by rw [upd_ne (nT c _ z rfl)]; exact z⟩
    · rw [upd_ne hb] at q
      exact (I.hok b v q).stay (fun _ _ _ z => z) (fun c z => by rw [upd_ne (nT c _ z rfl)]; exact z) fun c xs z => by rw [upd_ne (nT c _ z rfl)]; exact z
end

section
variable {P : Program} {w : World} {K : PySem.W.Frag} {a it : Addr} {o : Obj} {u : HO} {es : Array DictEntry} {ep : Nat} {ps : List (V × V)}
end
end L2

set_option Elab.async false
set_option maxRecDepth 100000
set_option maxHeartbeats 4000000
namespace L2
open PySem PySem.Spec PySem.W PyProof.Rows

theorem noFillTM : fillsNumberSlot (.type "tuple") "mul" = pure false :=
  PySem.fillsNumberSlot_seq (r := some (.builtin "tuple.__rmul__")) F.slot_tuple_mul.lookup (by decide +kernel) F.slot_tuple_rmul.lookup (by decide +kernel)
theorem repTM : seqRepeat? (.type "tuple") = pure (some (.builtin "tuple.__mul__")) := by
  unfold seqRepeat?
  rw [PySem.seqSlot_of (T := "tuple") (name := "__mul__") (id := "tuple.__mul__") F.slot_tuple_mul.lookup (by decide +kernel), PySem.seqSlot_of (T := "tuple") (name := "__rmul__") (id := "tuple.__rmul__") F.slot_tuple_rmul.lookup (by decide +kernel)]
  rfl
theorem rmulT (a : Int) (t : Tok) (l : Addr) (items : Array Value) (n : Nat) (sl : Array (Option Value)) :
    Meets (Builtin.«int.__rmul__» ⟨[.int a t, .ref l], []⟩) (fun _ R s => s.heap.get? l = some { cls := .type "tuple", dict := none, data := .seq items n, slots := sl } ∧ R (.ok (.ret Value.notImplemented)) s) :=
  .of_wp fun prog w A R s h => by obtain ⟨hp, g, d, tk, os⟩ := s; obtain ⟨hl, h⟩ := h; wp_walk; exact ⟨_, rfl, h⟩
theorem fold_flat (its : List Value) (m : Nat) : List.foldl (fun x1 x2 => x1 ++ x2) #[] (List.replicate m its.toArray) = (List.replicate m its).flatten.toArray := by
  have := foldl_rep its m []
  rw [List.nil_append] at this
  exact this
theorem mulT (l : Addr) (its : List Value) (n : Nat) (sl : Array (Option Value)) (x : Int) (u : Tok) (h1 : 2 ≤ x) (h2 : x < 1000) (hne : its ≠ []) (hz : its.length * x.toNat ≤ 10000) :
    Meets (Builtin.«tuple.__mul__» ⟨[.ref l, .int x u], []⟩) (fun _ R s => s.heap.get? l = some { cls := .type "tuple", dict := none, data := .seq its.toArray n, slots := sl } ∧
      R (.ok (.ret (Value.ref s.heap.objs.size))) { s with heap := s.heap.push { cls := Value.type "tuple", data := Data.seq (List.replicate x.toNat its).flatten.toArray }, toks := s.toks }) :=
  .of_wp fun prog w A R s h => by
    obtain ⟨hp, g, d, tk, os⟩ := s; obtain ⟨hl, h⟩ := h
    have f1 := PySem.AutoSeq1.idx_int
    have hs : its.toArray.size = its.length := by simp
    have hn2 : its.toArray.isEmpty = false := by cases its with | nil => exact absurd rfl hne | cons a b => rfl
    have e : ((its.length * x.toNat : Nat) : Int) = (its.toArray.size : Int) * x := by rw [hs, Int.natCast_mul, Int.toNat_of_nonneg (by omega)]
    have c0 : ¬ (decide (x < -(2 ^ 63)) || decide (x ≥ 2 ^ 63)) = true := by simp; omega
    have c1 : ¬ (its.toArray.isEmpty || x == 1) = true := by rw [hn2]; simp; omega
    have c2 : ¬ (decide (x ≤ 0) || its.toArray.isEmpty) = true := by rw [hn2]; simp; omega
    have c3 : ¬ (its.toArray.size : Int) * x > (2 ^ 63 - 1) / 8 := by rw [← e]; omega
    have c4 : ¬ Builtin.Tuple.tupleTooMany ((its.toArray.size : Int) * x) = true := by rw [← e]; unfold Builtin.Tuple.tupleTooMany; simp only [decide_eq_true_eq, show sizeLine = 16777216 from rfl]; omega
    have c5 : ¬ (List.foldl (fun x1 x2 => x1 ++ x2) #[] (List.replicate x.toNat its.toArray)).size > sizeLine := by
      rw [fold_flat, List.size_toArray, len_rep, Nat.mul_comm, show sizeLine = 16777216 from rfl]; omega
    wp_walk using wpAny_loadPart' hl
    rw [if_neg c0]
    wp_walk using wpAny_loadPart' hl
    rw [if_neg c1]
    wp_walk using wpAny_loadPart' hl
    rw [if_neg c2]
    wp_walk using wpAny_loadPart' hl
    rw [if_neg c3]
    wp_walk using wpAny_loadPart' hl
    rw [if_neg c4]
    wp_walk using wpAny_loadPart' hl
    rw [fold_flat]
    exact ⟨_, rfl, h⟩
section
variable {X : Cx} {Γ : Gz} {K : PySem.W.Frag}
def rRepT : R2 := fun x y H Q => ∃ l k xs, x = .ref l ∧ y = .int k ∧ H l = some (.tup xs) ∧ xs ≠ [] ∧ 2 ≤ k ∧ k < 1000 ∧ xs.length * k.toNat ≤ 10000 ∧ ∀ p, H p = none → Q (.ref p) (upd H p (.tup (List.replicate k.toNat xs).flatten))
theorem op_repT : OpR X (binaryOp .Mult) rRepT := by
  intro pins s σ H x y v u Q I rx ry h
  obtain ⟨l, k, xs, rfl, rfl, hH, hne, h1, h2, hz, q⟩ := h
  cases rx
  obtain ⟨t, rfl⟩ := ry
  obtain ⟨z, its, r, o, e, c, n, d, hd⟩ := I.hok l _ hH
  obtain ⟨oc, od, odata, osl⟩ := o
  simp only at c d hd
  subst c d hd
  have hl := r.length
  refine wpAny_binaryOp_repeat_ref (T := "tuple") (U := "int") (by decide) ⟨_, e, rfl⟩ (fun s' => typeIs_int s' k t) noFillTM F.fills_int_mul F.slot_int_rmul repTM F.slot_int_index.lookup
    (call_meets F.slot_int_rmul (typeIs_int s k t) F.entry_int_rmul (F.args_int_rmul_2 _ _) (rmulT k t l its.toArray n osl)
      ⟨e, rfl, ⟨_, e, rfl⟩, call_meets F.slot_tuple_mul ⟨_, e, rfl⟩ F.entry_tuple_mul (F.args_tuple_mul_2 _ _) (mulT l its n osl k t h1 h2 (fun w => hne (r.nil_iff.mp w)) (by rw [← hl]; exact hz)) ⟨e, ?_⟩⟩)
  refine ⟨.ref s.heap.objs.size, _, I.laid (t' := s.toks) (o := .tup (List.replicate k.toNat xs).flatten) (fun b ob q => Heap.get?_push_of_some _ q) (Nat.le_refl _) ?_, rfl, q _ (I.hok.fresh (Nat.le_refl _))⟩
  exact ⟨by rw [len_rep, Nat.mul_comm, show sizeLine = 16777216 from rfl]; omega, _, r.rep k.toNat, TupB.new _ _⟩
def zRepT : ZR2 := fun d e M Q => match d, e with | .tup ds, .int k => (ds ≠ [] ∧ 2 ≤ k ∧ k < 1000 ∧ ds.length * k.toNat ≤ 10000) ∧ Q (.tup (List.replicate k.toNat ds).flatten) M | _, _ => False
theorem Rzs.rep {β : Bz} {M : Mh} {H : Hp} {vs : List V} {ds : List Dv} (r : Rzs β M H vs ds) : ∀ k : Nat, Rzs β M H (List.replicate k vs).flatten (List.replicate k ds).flatten
  | 0 => ⟨rfl, fun i v d h => by simp at h⟩
  | k + 1 => by rw [List.replicate_succ, List.replicate_succ, List.flatten_cons, List.flatten_cons]; exact r.append (Rzs.rep r k)
theorem q_repT : QOp Γ X (binaryOp .Mult) zRepT := ⟨_, op_repT, fun β x y d e M H Q Q' _ _ _ m rx ry z q => by
  unfold zRepT at z
  split at z
  · rename_i ds k
    obtain ⟨a, vs, rfl, f, ha, rs⟩ := rz_tup_of rx
    obtain ⟨⟨z0, z1, z2, z3⟩, z4⟩ := z
    refine ⟨a, _, vs, rfl, rz_int_of ry, ha, fun w => z0 (by have := rs.len; rw [w] at this; exact List.eq_nil_of_length_eq_zero this.symm), z1, z2, by rw [rs.len]; exact z3, fun p hp => ?_⟩
    have x2 := Ex.lay m hp (.tup (List.replicate k.toNat vs).flatten)
    exact q _ _ _ _ x2 (rz_tup (m.fz hp) upd_same ((rs.rep _).ex x2)) z4
  · exact z.elim⟩
def zMulS : ZR2 := fun d e M Q => match d, e with | .str z, .int n => MulOk z n ∧ Q (.str (Txt.mul z n)) M | _, _ => False
theorem q_mul_str : QOp Γ X (binaryOp .Mult) zMulS := ⟨_, op_mul_str, fun β x y d e M H Q Q' _ _ _ m rx ry z q => by
  unfold zMulS at z
  split at z
  · exact ⟨_, _, rz_str_of rx, rz_int_of ry, z.1, q _ _ _ _ (.refl m) (.str _) z.2⟩
  · exact z.elim⟩

open Classical in
theorem in_key2 {pins : List (Addr × Obj)} {σ : St} {H : Hp} {s : Shared} (I : Inv X pins σ H s) {x : V} {v : Value} {d : Dt} {xs : List V} {ds : List Dt} {its : List Value} (rx : RelV x v) (hx : Rdt H x d) (rv : Vals xs its) (hl : xs.length = ds.length)
    (hat : ∀ (i : Nat) (v : V) (t : Dt), xs[i]? = some v → ds[i]? = some t → Rdt H v t) (hdp : ∀ t ∈ ds, dpD t ≤ 60) (hu : X.A.units + 64 < cLine) :
    ∃ e : Value → Bool, (∀ y ∈ its, SeqAt.EqAt X.A.in1 s y v (e y)) ∧ ∀ (i : Nat) (y : Value) (t : Dt), its[i]? = some y → ds[i]? = some t → e y = eqD t d := by
  have hli := rv.length
  let e : Value → Bool := fun y => decide (∃ (i : Nat) (t : Dt), its[i]? = some y ∧ ds[i]? = some t ∧ eqD t d = true)
  have key : ∀ (i : Nat) (y : Value) (t : Dt), its[i]? = some y → ds[i]? = some t → e y = eqD t d := fun i y t hi ht => by
    cases hE : eqD t d with
    | true => exact decide_eq_true ⟨i, t, hi, ht, hE⟩
    | false =>
      refine decide_eq_false fun ⟨j, t', hj, ht', he⟩ => ?_
      obtain ⟨a, ha, ra⟩ := paired_get rv hi
      obtain ⟨b, hb, rb⟩ := paired_get rv hj
      have eab := ra.inj rb
      subst eab
      have := (hat i a t ha ht).inj (hat j a t' hb ht')
      subst this
      rw [he] at hE
      cases hE
  refine ⟨e, fun y hy => ?_, key⟩
  obtain ⟨i, hi⟩ := List.mem_iff_getElem?.mp hy
  obtain ⟨a, ha, ra⟩ := paired_get rv hi
  have hil : i < ds.length := by
    have := (List.getElem?_eq_some_iff.mp ha).1
    omega
  have ht := List.getElem?_eq_getElem hil
  rw [key i y _ hi ht]
  refine eqAt_D I (hat i a _ ha ht) hx ra rx ?_
  have := hdp _ (List.getElem_mem hil)
  have : X.A.in1.units = X.A.units + 1 := rfl
  omega

def FirstAt (ts : List Dt) (d : Dt) (j : Nat) : Prop := (∃ t, ts[j]? = some t ∧ eqD t d = true) ∧ ∀ m t, m < j → ts[m]? = some t → eqD t d = false
def rIndexD : V → List V → Hp → VK → Prop := fun x vs H Q => ∃ (p : Addr) (xs : List V) (v : V) (d : Dt) (ds : List Dt) (j : Nat), x = .ref p ∧ vs = [v] ∧ H p = some (.lst xs) ∧ Rdt H v d ∧ xs.length = ds.length ∧ (∀ (i : Nat) (v : V) (t : Dt), xs[i]? = some v → ds[i]? = some t → Rdt H v t) ∧
  (∀ t ∈ ds, dpD t ≤ 60) ∧ FirstAt ds d j ∧ j < 16777216 ∧ Q (.int (j : Nat)) H
theorem mt_indexD (hu : X.A.units + 64 < cLine) : MtR X "list.index" rIndexD := by
  intro pins s σ H x vs v us Q I rx rv h
  obtain ⟨p, xs, v1, d, ds, j, rfl, rfl, hp, hx, hl, hat, hdp, ⟨⟨t, ht, hE⟩, hno⟩, hj, q⟩ := h
  cases rx
  obtain ⟨u, rfl, ru⟩ := rv.one
  obtain ⟨z, its, n, r, hli, e⟩ := I.lstM hp
  obtain ⟨ee, he, key⟩ := in_key2 I ru hx r hl hat hdp hu
  have hr := r.length
  have hjl : j < its.length := by
    have := (List.getElem?_eq_some_iff.mp ht).1
    omega
  refine call_meets F.slot_list_index ⟨_, e, rfl⟩ F.entry_list_index (F.args_list_index_2 _ _) (SeqAt.list_indexAt p its.toArray n _ _ _ ee j (by simpa using hjl) (by omega) ?_ fun m hm hmj => ?_) ⟨e, fun y hy => he y (by simpa using hy), ⟨.int _, H, I.tok _, ⟨_, rfl⟩, q⟩⟩
  · rw [key j _ t (by simp [hjl]) ht]; exact hE
  · have hml : m < its.length := by simpa using hm
    have hmd : m < ds.length := by omega
    rw [key m _ _ (by simp [hml]) (List.getElem?_eq_getElem hmd)]
    exact hno m _ hmj (List.getElem?_eq_getElem hmd)
def zIndexD : ZRM := fun d ds M Q => match now M d, ds with
  | .lst xs, [y] => (match dtOf (now M y), dtsOf xs with | some a, some ts => (∀ t ∈ ts, dpD t ≤ 60) ∧ ∃ j, FirstAt ts a j ∧ j < 16777216 ∧ Q (.int (j : Nat)) M | _, _ => False)
  | _, _ => False
theorem q_indexD (hu : X.A.units + 64 < cLine) : MtZ Γ X "list" "list.index" K zIndexD := ⟨_, mt_indexD hu, fun β x xs d ds M H Q Q' _ _ _ m r rs z q => by
  unfold zIndexD at z
  split at z
  · rename_i xs2 y h2
    split at z
    · rename_i a ts h1 hts
      obtain ⟨v, e2, rv⟩ := rzs_one rs
      subst e2
      obtain ⟨hdp, j, hF, hj, hq⟩ := z
      have hy : Rdt H x (.lst ts) := now_rdt m r (by rw [h2]; simp only [dtOf, hts, Option.map_some])
      cases hy with
      | lst e hl hat => exact ⟨_, _, v, a, ts, j, rfl, rfl, e, now_rdt m rv h1, hl, hat, hdp, hF, hj, q _ _ _ _ (.refl m) (.int _) hq⟩
    · exact z.elim
  · exact z.elim⟩

theorem len_rows {A : Around} {E : Value → Shared → Prop} {s : Shared} {P : Program} {w : World} {d : Addr} {o : Obj} {es : Array DictEntry} {ep : Nat} {Q : Value → Shared → Prop} (hd : (d == sysModules) = false) (ho : s.heap.get? d = some o) (hc : o.cls = .type "dict") (hdat : o.data = .dict es ep) (hfit : (es.size : Int) < 2 ^ 63)
    (h : Q (.int es.size (s.toks + 1)) { s with toks := s.toks + 1 + 1 }) : wpAny (model P w) A (call (.builtin "len") [.ref d]) Q E s := by
  have mt : Meets (Builtin.«dict.__len__» ⟨[.ref d], []⟩) (fun _ R s' => s'.heap.get? d = some o ∧ R (.ok (.ret (.int es.size s'.toks))) { s' with toks := s'.toks + 1 }) := .of_wp fun P w A R s' ⟨hg, hR⟩ => by
    show wpAny _ _ (dictSize d >>= _) _ _ s'
    unfold dictSize
    exact wpAny_bind (wpAny_bind (wpAny_dictEntries hg hdat (wpAny_pure (wpAny_bind (wpAny_pendingCount_other hd (wpAny_ret_mkInt (by rw [Nat.add_zero]; exact hR)))))))
  exact call_len_meets ⟨_, ho, hc⟩ F.slot_dict_len F.entry_dict_len (F.args_dict_len_1 _) mt (by omega) (by omega) (fun _ q => ⟨ho, q⟩) h
def zLenT (d : Dv) (M : Mh) (Q : ZK) : Prop := match nowK M d with | .dt ks _ => Q (.int ks.length) M | _ => False
theorem q_lenT : QCall Γ X (.builtin "len") (z1 zLenT) := ⟨fun xs H Q => ∃ a kvs, xs = [.ref a] ∧ Rd H a (.dT kvs) ∧ Q (.int kvs.length) H, fun pins s σ H xs us Q I rs ⟨a, kvs, e, ha, q⟩ => by
  subst e
  cases rs with
  | cons r1 rs =>
    cases rs
    cases r1
    obtain ⟨o, es, ep, ps, R⟩ := rows_of I.hok ha rfl
    have hl := (dt_rd I.hok ha).1
    have hp : ps.length = kvs.length := by
      cases R.ps with
      | t _ bs hl h => simp only [List.length_zip, List.length_map]; omega
    have he : es.size = kvs.length := R.rel.1.trans hp
    refine len_rows R.lo R.obj R.cls R.data (by rw [he]; rw [show sizeLine = 16777216 from rfl] at hl; omega) ⟨.int kvs.length, H, I.tok _, ⟨_, by rw [he]⟩, q⟩, fun β xs ds M H Q Q' _ _ _ m rs z q => by
  unfold z1 at z
  split at z
  · obtain ⟨x, rfl, r⟩ := rzs_one rs
    unfold zLenT at z
    split at z
    · rename_i ks ds hk
      obtain ⟨a, vs, rfl, ha, hk, _⟩ := (nowK_ok m r).2 _ _ hk
      refine ⟨a, _, rfl, ha, ?_⟩
      rw [List.length_zip, ← hk, Nat.min_self]
      exact q _ _ _ _ (.refl m) (.int _) z
    · exact z.elim
  · exact z.elim⟩
end
end L2

set_option Elab.async false
set_option maxRecDepth 100000
set_option maxHeartbeats 4000000
namespace L2
open PySem PySem.Spec PyProof.Rows

def sgW (k : Nat) : Str := ⟨#[97 + k]⟩
theorem sgW_len (k : Nat) : (sgW k).length = 1 := rfl
theorem strlen_app (a b : Str) : (a ++ b).length = a.length + b.length := by
  show (a.cps ++ b.cps).size = a.cps.size + b.cps.size
  exact Array.size_append
section
variable {κ : Type} [DecidableEq κ]
theorem len_le_of_sub : ∀ (ks U : List κ), ks.Nodup → (∀ k ∈ ks, k ∈ U) → ks.length ≤ U.length
  | [], _, _, _ => Nat.zero_le _
  | k :: ks, U, nd, h => by
    have hn := List.nodup_cons.mp nd
    have hk := h k List.mem_cons_self
    have ih := len_le_of_sub ks (U.erase k) hn.2 fun x hx => (List.mem_erase_of_ne (fun e => hn.1 (by rw [← e]; exact hx))).mpr (h x (List.mem_cons_of_mem _ hx))
    rw [List.length_erase_of_mem hk] at ih
    have := List.length_pos_of_mem hk
    rw [List.length_cons]
    omega
def vis1 (step : κ → Nat → κ) (met : κ) (w : Str) (st : List κ × List Str) (a : Nat) : List κ × List Str := if step met a ∈ st.1 then st else (st.1 ++ [step met a], st.2 ++ [w ++ sgW a])
def visit (step : κ → Nat → κ) (met : κ) (w : Str) (n : Nat) (st : List κ × List Str) : List κ × List Str := (List.range n).foldl (vis1 step met w) st
def bfs (step : κ → Nat → κ) (n most : Nat) : Nat → Nat → List κ × List Str → List κ × List Str
  | 0, _, st => st
  | fuel + 1, i, st => match st.1[i]?, st.2[i]? with
    | some met, some w => if st.1.length ≤ most then bfs step n most fuel (i + 1) (visit step met w n st) else st
    | _, _ => st
structure BfsOk (U : List κ) (st : List κ × List Str) : Prop where
  len : st.1.length = st.2.length
  nd : st.1.Nodup
  sub : ∀ k ∈ st.1, k ∈ U
  wl : ∀ (i : Nat) (w : Str), st.2[i]? = some w → w.length ≤ i
theorem visit_succ (step : κ → Nat → κ) (met : κ) (w : Str) (n : Nat) (st : List κ × List Str) : visit step met w (n + 1) st = vis1 step met w (visit step met w n st) n := by
  unfold visit
  rw [List.range_succ, List.foldl_append]
  rfl
theorem vis1_grow (step : κ → Nat → κ) (met : κ) (w : Str) (st : List κ × List Str) (a : Nat) : ∃ ks ws, (vis1 step met w st a).1 = st.1 ++ ks ∧ (vis1 step met w st a).2 = st.2 ++ ws := by
  unfold vis1
  split
  · exact ⟨[], [], by simp, by simp⟩
  · exact ⟨_, _, rfl, rfl⟩
theorem visit_grow (step : κ → Nat → κ) (met : κ) (w : Str) (n : Nat) (st : List κ × List Str) : ∃ ks ws, (visit step met w n st).1 = st.1 ++ ks ∧ (visit step met w n st).2 = st.2 ++ ws := by
  induction n with
  | zero => exact ⟨[], [], by simp [visit], by simp [visit]⟩
  | succ n ih =>
    obtain ⟨ks, ws, h1, h2⟩ := ih
    rw [visit_succ]
    obtain ⟨ks', ws', h3, h4⟩ := vis1_grow step met w (visit step met w n st) n
    exact ⟨ks ++ ks', ws ++ ws', by rw [h3, h1, List.append_assoc], by rw [h4, h2, List.append_assoc]⟩
theorem get_app {α : Type} {l m : List α} {i : Nat} {x : α} (h : l[i]? = some x) : (l ++ m)[i]? = some x := by
  rw [List.getElem?_append_left (List.getElem?_eq_some_iff.mp h).1]; exact h
theorem BfsOk.vis1 {U : List κ} {step : κ → Nat → κ} {st : List κ × List Str} (o : BfsOk U st) {i a : Nat} {met : κ} {w : Str} (hw : st.2[i]? = some w) (hs : step met a ∈ U) : BfsOk U (L2.vis1 step met w st a) := by
  unfold L2.vis1
  split
  · exact o
  · rename_i hn
    refine ⟨by simp [o.len], ?_, fun k hk => ?_, fun j v hj => ?_⟩
    · rw [List.nodup_append]
      refine ⟨o.nd, by simp, fun x hx y hy e => ?_⟩
      rw [List.mem_singleton] at hy
      subst e
      exact hn (hy ▸ hx)
    · rcases List.mem_append.mp hk with z | z
      · exact o.sub k z
      · rw [List.mem_singleton] at z; rw [z]; exact hs
    · by_cases h : j < st.2.length
      · rw [List.getElem?_append_left h] at hj
        exact o.wl j v hj
      · rw [List.getElem?_append_right (by omega)] at hj
        have e : j - st.2.length = 0 := by
          have := (List.getElem?_eq_some_iff.mp hj).1
          simp at this; omega
        rw [e] at hj
        cases hj
        have h1 := o.wl i w hw
        have h2 := (List.getElem?_eq_some_iff.mp hw).1
        rw [strlen_app, sgW_len]
        omega
theorem BfsOk.visit {U : List κ} {step : κ → Nat → κ} {st : List κ × List Str} (o : BfsOk U st) {i n : Nat} {met : κ} {w : Str} (hw : st.2[i]? = some w) (hs : ∀ a, a < n → step met a ∈ U) : BfsOk U (L2.visit step met w n st) := by
  induction n with
  | zero => exact o
  | succ n ih =>
    rw [visit_succ]
    obtain ⟨ks, ws, h1, h2⟩ := visit_grow step met w n st
    exact (ih fun a ha => hs a (by omega)).vis1 (i := i) (by rw [h2]; exact get_app hw) (hs n (by omega))

def met (step : κ → Nat → κ) (n most N : Nat) (s : κ) : List κ × List Str := bfs step n most (N + 1) 0 ([s], [""])
theorem put_new {α : Type} {ks : List κ} {ds : List α} {k : κ} {d : α} (h : k ∉ ks) : putL ks k = ks ++ [k] ∧ putV ks ds k d = ds ++ [d] := by
  unfold putL putV
  rw [if_neg h, if_neg h]
  exact ⟨rfl, rfl⟩
end
theorem abc_atW {k : Nat} (h : k < 3) : atI ("abc" : Str).cps.toList ((k : Nat) : Int) = some (97 + k) := by
  have : k = 0 ∨ k = 1 ∨ k = 2 := by omega
  rcases this with rfl | rfl | rfl <;> decide +kernel
end L2

set_option Elab.async false
set_option maxRecDepth 100000
set_option maxHeartbeats 4000000
namespace L2
open PySem PySem.Spec PyProof.Rows

def RndOk (S : Nat → List Int) (i j : Nat) : Prop := j < i ∧ S i = S j ∧ ∀ a b, a < b → b < i → S a ≠ S b
theorem RndOk.uniq {S : Nat → List Int} {i j i' j' : Nat} (h : RndOk S i j) (h' : RndOk S i' j') : i = i' ∧ j = j' := by
  have e : i = i' := by
    rcases Nat.lt_trichotomy i i' with q | q | q
    · exact absurd h.2.1.symm (h'.2.2 j i h.1 q)
    · exact q
    · exact absurd h'.2.1.symm (h.2.2 j' i' h'.1 q)
  subst e
  refine ⟨rfl, ?_⟩
  have e2 : S j = S j' := h.2.1.symm.trans h'.2.1
  rcases Nat.lt_trichotomy j j' with q | q | q
  · exact absurd e2 (h.2.2 j j' q h'.1)
  · exact q
  · exact absurd e2.symm (h.2.2 j' j q h.1)
def itN (f : Nat → Nat) : Nat → Nat → Nat
  | 0, x => x
  | k + 1, x => f (itN f k x)
theorem itN_add (f : Nat → Nat) (a b x : Nat) : itN f (a + b) x = itN f a (itN f b x) := by
  induction a with
  | zero => rw [Nat.zero_add]; rfl
  | succ a ih => rw [Nat.succ_add]; show f _ = f _; rw [ih]
theorem itN_lt {f : Nat → Nat} {n : Nat} (h : ∀ y, y < n → f y < n) {x : Nat} (hx : x < n) : ∀ k, itN f k x < n
  | 0 => hx
  | k + 1 => h _ (itN_lt h hx k)
theorem itN_pigeon {f : Nat → Nat} {n x : Nat} (hn : n ≤ 9) (h : ∀ y, y < n → f y < n) (hx : x < n) : ∃ a b, a < b ∧ b ≤ 9 ∧ itN f a x = itN f b x := by
  refine Classical.byContradiction fun hno => ?_
  have nd : ((List.range 10).map fun k => itN f k x).Nodup := by
    refine List.pairwise_map.mpr (List.Pairwise.imp_of_mem (fun {a b} ha hb hlt e => ?_) (List.pairwise_lt_range (n := 10)))
    exact hno ⟨a, b, hlt, by have := List.mem_range.mp hb; omega, e⟩
  have := len_le_of_sub _ (List.range n) nd fun k hk => by
    obtain ⟨j, _, rfl⟩ := List.mem_map.mp hk
    exact List.mem_range.mpr (itN_lt h hx j)
  rw [List.length_map, List.length_range, List.length_range] at this
  omega
theorem itN_round {f : Nat → Nat} {n x : Nat} (hn : n ≤ 9) (h : ∀ y, y < n → f y < n) (hx : x < n) : itN f 2529 x = itN f 9 x := by
  obtain ⟨a, b, hab, hb, e⟩ := itN_pigeon hn h hx
  have step : ∀ k, itN f (k + (b - a) + a) x = itN f (k + a) x := fun k => by
    rw [show k + (b - a) + a = k + b by omega, itN_add, itN_add, e]
  have many : ∀ m, itN f (9 + m * (b - a)) x = itN f 9 x := fun m => by
    induction m with
    | zero => rw [Nat.zero_mul]
    | succ m ih =>
      rw [Nat.succ_mul]
      have := step (9 - a + m * (b - a))
      rw [show 9 + (m * (b - a) + (b - a)) = 9 - a + m * (b - a) + (b - a) + a by omega, this, show 9 - a + m * (b - a) + a = 9 + m * (b - a) by omega]
      exact ih
  obtain ⟨p, hp⟩ : ∃ p, p = b - a := ⟨_, rfl⟩
  rw [← hp] at many
  · · have : p = 1 ∨ p = 2 ∨ p = 3 ∨ p = 4 ∨ p = 5 ∨ p = 6 ∨ p = 7 ∨ p = 8 ∨ p = 9 := by omega
      rcases this with rfl | rfl | rfl | rfl | rfl | rfl | rfl | rfl | rfl
      · exact many 2520
      · exact many 1260
      · exact many 840
      · exact many 630
      · exact many 504
      · exact many 420
      · exact many 360
      · exact many 315
      · exact many 280
def onceI (once : List Int) (p : Int) : Int := once.getD p.toNat 0
def saidI (once : List Int) : Nat → List Int
  | 0 => rangeI once.length
  | k + 1 => (saidI once k).map (onceI once)
def OnceOk (once : List Int) : Prop := ∀ v ∈ once, 0 ≤ v ∧ v < (once.length : Nat)
theorem onceI_ok {once : List Int} (o : OnceOk once) {p : Int} (h0 : 0 ≤ p) (h1 : p < (once.length : Nat)) : (0 ≤ onceI once p ∧ onceI once p < (once.length : Nat)) ∧ once[p.toNat]? = some (onceI once p) := by
  have hp : p.toNat < once.length := by omega
  have e : onceI once p = once[p.toNat] := by unfold onceI; rw [List.getD_eq_getElem?_getD, List.getElem?_eq_getElem hp]; rfl
  rw [e]
  exact ⟨o _ (List.getElem_mem hp), List.getElem?_eq_getElem hp⟩
theorem said_it {once : List Int} (o : OnceOk once) : ∀ k, saidI once k = (List.range once.length).map fun x => ((itN (fun y => (onceI once (y : Nat)).toNat) k x : Nat) : Int)
  | 0 => rfl
  | k + 1 => by
    rw [saidI, said_it o k, List.map_map]
    refine List.map_congr_left fun x hx => ?_
    have lt := itN_lt (f := fun y => (onceI once (y : Nat)).toNat) (n := once.length) (fun y hy => by have := (onceI_ok o (p := (y : Nat)) (by omega) (by omega)).1; show (onceI once (y : Nat)).toNat < _; omega) (List.mem_range.mp hx) k
    have q := (onceI_ok o (p := (itN (fun y => (onceI once (y : Nat)).toNat) k x : Nat)) (by omega) (by omega)).1
    show onceI once (itN (fun y => (onceI once (y : Nat)).toNat) k x : Nat) = (((onceI once (itN (fun y => (onceI once (y : Nat)).toNat) k x : Nat)).toNat : Nat) : Int)
    omega
theorem said_len (once : List Int) : ∀ k, (saidI once k).length = once.length
  | 0 => by show (rangeI _).length = _; simp [rangeI]
  | k + 1 => by rw [saidI, List.length_map]; exact said_len once k
theorem said_ok {once : List Int} (o : OnceOk once) (k : Nat) : ∀ p ∈ saidI once k, 0 ≤ p ∧ p < (once.length : Nat) := fun p hp => by
  rw [said_it o k] at hp
  obtain ⟨x, hx, rfl⟩ := List.mem_map.mp hp
  have lt := itN_lt (f := fun y => (onceI once (y : Nat)).toNat) (n := once.length) (fun y hy => by have := (onceI_ok o (p := (y : Nat)) (by omega) (by omega)).1; show (onceI once (y : Nat)).toNat < _; omega) (List.mem_range.mp hx) k
  omega
theorem said_bound {once : List Int} (o : OnceOk once) (hn : once.length ≤ 9) {i : Nat} (h : ∀ a b, a < b → b < i → saidI once a ≠ saidI once b) : i ≤ 2529 := by
  rcases Nat.lt_or_ge 2529 i with q | q
  · refine absurd ?_ (h 9 2529 (by decide) q)
    rw [said_it o, said_it o]
    refine List.map_congr_left fun x hx => ?_
    rw [itN_round hn (fun y hy => by have := (onceI_ok o (p := (y : Nat)) (by omega) (by omega)).1; show (onceI once (y : Nat)).toNat < _; omega) (List.mem_range.mp hx)]
  · exact q
section
variable {κ α : Type} [DecidableEq κ]
theorem look_atG : ∀ {ks : List κ} {ws : List α} {i : Nat} {k : κ} {w : α}, ks.Nodup → ks[i]? = some k → ws[i]? = some w → look ks ws k = some w
  | [], _, _, _, _, _, h, _ => by simp at h
  | _ :: _, [], _, _, _, _, _, h => by simp at h
  | k0 :: ks, w0 :: ws, 0, k, w, nd, h1, h2 => by
    simp at h1 h2; subst h1 h2
    unfold look; rw [if_pos rfl]
  | k0 :: ks, w0 :: ws, i + 1, k, w, nd, h1, h2 => by
    have hn := List.nodup_cons.mp nd
    have h1 : ks[i]? = some k := by simpa using h1
    have h2 : ws[i]? = some w := by simpa using h2
    unfold look
    rw [if_neg (fun e => hn.1 (by rw [e]; exact List.mem_of_getElem? h1))]
    exact look_atG hn.2 h1 h2
theorem look_someG {ks : List κ} {ws : List α} (h : ks.length = ws.length) (x : κ) : (look ks ws x).isSome = decide (x ∈ ks) := by
  have := look_none (x := x) h
  cases e : look ks ws x with
  | none => rw [decide_eq_false (this.mp e)]; rfl
  | some d => rw [decide_eq_true (Classical.byContradiction fun q => by rw [this.mpr q] at e; cases e)]; rfl
end
def keysI (S : Nat → List Int) (i : Nat) : List (List Key) := (List.range i).map fun k => (S k).map Sum.inl
def valsJ (i : Nat) : List Dv := (List.range i).map fun k => Dv.int (k : Nat)
theorem inls_inj : ∀ (a b : List Int), a.map (Sum.inl : Int → Key) = b.map Sum.inl → a = b
  | [], [], _ => rfl
  | [], _ :: _, h => by cases h
  | _ :: _, [], h => by cases h
  | x :: a, y :: b, h => by
    rw [List.map_cons, List.map_cons] at h
    injection h with h1 h2
    injection h1 with h1
    rw [h1, inls_inj a b h2]
theorem keysI_nodup {S : Nat → List Int} {i : Nat} (h : ∀ a b, a < b → b < i → S a ≠ S b) : (keysI S i).Nodup := by
  refine List.pairwise_map.mpr (List.Pairwise.imp_of_mem (fun {a b} ha hb hlt e => ?_) (List.pairwise_lt_range (n := i)))
  exact h a b hlt (List.mem_range.mp hb) (inls_inj _ _ e)
theorem keysI_len (S : Nat → List Int) (i : Nat) : (keysI S i).length = i := by simp [keysI]
theorem valsJ_len (i : Nat) : (valsJ i).length = i := by simp [valsJ]
theorem keysI_succ (S : Nat → List Int) (i : Nat) : keysI S (i + 1) = keysI S i ++ [(S i).map Sum.inl] := by simp [keysI, List.range_succ]
theorem valsJ_succ (i : Nat) : valsJ (i + 1) = valsJ i ++ [Dv.int (i : Nat)] := by simp [valsJ, List.range_succ]
theorem mem_keysI {S : Nat → List Int} {i : Nat} {l : List Int} : l.map Sum.inl ∈ keysI S i ↔ ∃ j, j < i ∧ S j = l := by
  constructor
  · intro h
    obtain ⟨j, hj, e⟩ := List.mem_map.mp h
    exact ⟨j, List.mem_range.mp hj, inls_inj _ _ e⟩
  · rintro ⟨j, hj, rfl⟩
    exact List.mem_map.mpr ⟨j, List.mem_range.mpr hj, rfl⟩
theorem look_keysI {S : Nat → List Int} {i j : Nat} (h : ∀ a b, a < b → b < i → S a ≠ S b) (hj : j < i) : look (keysI S i) (valsJ i) ((S j).map Sum.inl) = some (.int (j : Nat)) :=
  look_atG (keysI_nodup h) (i := j) (by simp [keysI, hj]) (by simp [valsJ, hj])
end L2

set_option Elab.async false
set_option maxRecDepth 100000
set_option maxHeartbeats 4000000
namespace My
open PySem L2 PyProof.Rows
def top (i : Nat) : Stmt := PySem.Challenge.pw_roadcall_k19_words_come_round.main.body.getD i (.Pass ⟨0, 0, 0, 0⟩)
abbrev s_is_whole : Stmt := top 5
abbrev s_is_whole_below : Stmt := top 6
abbrev s_is_row : Stmt := top 11
abbrev s_is_net : Stmt := top 12
abbrev s_need_net : Stmt := top 13
abbrev s_signs_of : Stmt := top 14
abbrev s_all_places : Stmt := top 15
abbrev s_is_word : Stmt := top 16
abbrev s_need_word : Stmt := top 17
abbrev s_end_of : Stmt := top 19
abbrev s_map_of : Stmt := top 21
abbrev s_comes_round : Stmt := top 22
abbrev s__law_bag : Stmt := top 24
abbrev s__law_take : Stmt := top 25
abbrev s__law_order : Stmt := top 26
abbrev s__law_net : Stmt := top 27
abbrev s__law_word : Stmt := top 28
abbrev s__law_led : Stmt := top 29
abbrev s__law_due : Stmt := top 30
abbrev s__law_rings : Stmt := top 31
abbrev s_law : Stmt := top 32
end My

set_option Elab.async false
set_option maxRecDepth 100000
set_option maxHeartbeats 4000000
namespace My
open PySem L2 PyProof.Rows
section
variable {P : Program} {w : World} {K : PySem.W.Frag} {mg : Str → Option Value} {base : Heap} {tb : Tbs}
theorem sc_is_whole : FnScope ["thing"] ["thing"] (defScope s_is_whole) := ⟨rfl, rfl, rfl, by decide +kernel, rfl, by decide +kernel, by decide +kernel⟩
theorem sc_is_whole_below : FnScope ["thing", "many"] ["thing", "many"] (defScope s_is_whole_below) := ⟨rfl, rfl, rfl, by decide +kernel, rfl, by decide +kernel, by decide +kernel⟩
theorem sc_is_row : FnScope ["thing", "many", "width"] ["thing", "many", "width"] (defScope s_is_row) := ⟨rfl, rfl, rfl, by decide +kernel, rfl, by decide +kernel, by decide +kernel⟩
theorem sc_is_net : FnScope ["thing", "many", "width"] ["thing"] (defScope s_is_net) := ⟨rfl, rfl, rfl, by decide +kernel, rfl, by decide +kernel, by decide +kernel⟩

def kndD (d : Dv) : Bool := (isD "int" (fun _ => none) d).isSome
def wholeD : Dv → Bool | .int _ => true | _ => false
def belowD (m : Int) : Dv → Bool | .int i => decide (0 ≤ i) && decide (i < m) | _ => false
def zWhole : ZSp := fun ds M Q _ => ∃ d, ds = [d] ∧ kndD d = true ∧ Q (.bl (wholeD d)) M
theorem ok_is_whole {f : Addr} {fd : FuncData} (D : Df K mg "is_whole" s_is_whole ["thing"] f fd) (bl : Bl mg) : FnOk P w K mg base CX0 1 f fd ["thing"] (spZ P w K tb zWhole) := by
  refine zdef D sc_is_whole (fun ds M Q E ⟨d, e, _⟩ => by rw [e]; rfl) fun A outer s E Γ ds Q' E' hP hw hK ht hr ⟨d, e, hk, q⟩ => ⟨_, (qss_one (qs_ret (qe_and (qe_callB (q_isinst (K := K) rfl) rfl bl.isinstance_ bt_isinstance (qa_cons (qv 0) (qa_cons (qe_bltn (v := .ty "int") rfl bl.int_ bt_int rfl) qa_nil))) (qe_one (qe_not (qe_callB (q_isinst (K := K) rfl) rfl bl.isinstance_ bt_isinstance (qa_cons (qv 0) (qa_cons (qe_bltn (v := .ty "bool") rfl bl.bool_ bt_bool rfl) qa_nil)))))))), ?_⟩
  subst e
  cases d <;> first | exact ⟨by decide, ⟨by decide, .inl q⟩⟩ | exact ⟨by decide, .inl q⟩ | exact nomatch hk
def zBelow : ZSp := fun ds M Q _ => ∃ d m, ds = [d, .int m] ∧ kndD d = true ∧ Q (.bl (belowD m d)) M
theorem ok_is_whole_below {f f1 : Addr} {fd fd1 : FuncData} (D : Df K mg "is_whole_below" s_is_whole_below ["thing", "many"] f fd) (D_is_whole : Df K mg "is_whole" s_is_whole ["thing"] f1 fd1) (bl : Bl mg) : FnOk P w K mg base CX0 2 f fd ["thing", "many"] (spZ P w K tb zBelow) := by
  have G_is_whole := ok_is_whole (P := P) (w := w) (base := base) (tb := tb) D_is_whole bl
  refine zdef D sc_is_whole_below (fun ds M Q E ⟨d, m, e, _⟩ => by rw [e]; rfl) fun A outer s E Γ ds Q' E' hP hw hK ht hr ⟨d, m, e, hk, q⟩ => ⟨_, (qss_one (qs_ret (qe_and (qe_call G_is_whole (hr.mono (by decide)) rfl D_is_whole.mg D_is_whole.fn.kp D_is_whole.bd pass0 hP hw hK ht XR.none (qa_cons (qv 0) qa_nil)) (qe_one (qe_chain q_le q_lt qe_int (qv 0) (qv 1)))))), ?_⟩
  subst e
  refine ⟨d, rfl, hk, ?_⟩
  cases d with
  | int i =>
    simp only [zVar, zC, zOp, zII, zIC, zEq, zNe, scalZ, zIs, zIsN, isNonD, zSS, zTest, zBool, zChain, zAnd, zOr, zNot, zAndV, zOrV, zNotV, zIfE, zNil, zCons, zTup, zLst, zLstP, zCB, z1, zLenD, z2I, zAbs, zDivmod, zInt, zList, zListP, zTuple, zSorted, zSet, zLenS, intsM, itemsM, zIsInst, isD, zBM, tyZ, zAppend, zExtend, zPop, zPopAt, zIndexS, zCount, zSum, zReverse, zSetI, zgSub, zNext, zSeq, zDrop, zRet, zRetN, zIfS, zgName, zgNil, zgCons, zgTup, zAsg, zFor, zForM, zComp, zCompP, zTupG, zAll, zSetC, zBlock, zCall, zTry, zRaise, zIsE, zstart, zEndsOf, ziTup, ziLst, ziStr, ziRng1, ziRng2, ziEnumK, ziZip, seqK, zoNone, zoSome, zSl, zSlT, zSlS, zSlL, zIx, zRangeT, zRangeL, zRangeP, zNeg, zTruth, truD, zCatT, zNoIf, zInI, zAllB, zGetR, zDIn, zMGet, lookD, nowK, keyD, zDNewK, zDNewT, zDisp1K, zDisp1T, zDPut, zLenK, zLenT, zRepT, zMulS, zCallL, List.getElem?_cons_zero, List.getElem?_cons_succ, List.map_cons, List.map_nil, List.nil_append, List.cons_append, List.length_cons, List.length_nil, List.replicate_succ, List.replicate_zero, List.set_cons_zero, List.set_cons_succ, Option.join_some, Nat.reduceAdd, Nat.reduceSub, Nat.sub_self, Nat.zero_add, if_true, if_false, Bool.false_eq_true, Bool.not_true, Bool.not_false, true_and, and_true, beq_self_eq_true, String.reduceBEq, zLoop, List.length_map, List.length_set, updM_same, updM_updM, List.append_nil, Int.zero_add, Int.toNat_natCast, rangeD_len, pairsD_len, numD_len, Nat.min_self, atI_zero, decide_true, decide_false, Bool.not_eq_true, bne_self_eq_false, wholeD]
    refine ifB (fun h => ?_) (fun h => ?_)
    · rw [show belowD m (.int i) = decide (i < m) by simp only [belowD, h, Bool.true_and]] at q
      exact .inl q
    · rw [show belowD m (.int i) = false by simp only [belowD, h, Bool.false_and]] at q
      exact .inl q
  | _ => exact .inl q
def rowD (m : Int) (w : Nat) : Dv → Bool | .tup ds => decide (ds.length = w) && ds.all (belowD m) | _ => false

def rowK : Dv → Bool | .tup ds => ds.all kndD | d => kndD d
def zRow : ZSp := fun ds M Q _ => ∃ d m w, ds = [d, .int m, .int (w : Nat)] ∧ rowK d = true ∧ Q (.bl (rowD m w d)) M
theorem ok_is_row {f f1 f2 : Addr} {fd fd1 fd2 : FuncData} {c_is_row p_is_row : Addr} (D : Df K mg "is_row" s_is_row ["thing", "many", "width"] f fd) (C_is_row : DfC base fd c_is_row p_is_row) (hp : p_is_row ∈ tb) (hbm : ∃ bm ob, BMod base mainGlobals mg bm ob)
    (D_is_whole_below : Df K mg "is_whole_below" s_is_whole_below ["thing", "many"] f1 fd1) (D_is_whole : Df K mg "is_whole" s_is_whole ["thing"] f2 fd2) (bl : Bl mg) : FnOk P w K mg base CX0 4 f fd ["thing", "many", "width"] (spZ P w K tb zRow) := by
  have G_is_whole_below := ok_is_whole_below (P := P) (w := w) (base := base) (tb := tb) D_is_whole_below D_is_whole bl
  refine zdef D sc_is_row (fun ds M Q E ⟨d, m, n, e, _⟩ => by rw [e]; rfl) fun A outer s E Γ ds Q' E' hP hw hK ht hr ⟨d, m, n, e, hk, q⟩ => ?_
  have htb_is_row : p_is_row ∈ Γ.tb := ht ▸ hp
  refine ⟨_, (qss_cons (qs_if (QW.pt (qw_or (qt_not (qt_val (qe_callB (q_isinst (K := K) rfl) rfl bl.isinstance_ bt_isinstance (qa_cons (qv 0) (qa_cons (qe_bltn (v := .ty "tuple") rfl bl.tuple_ bt_tuple rfl) qa_nil))))) (qw_or1 (qt_cmpR q_ne (qe_callB (q_len (K := K) rfl hK) rfl bl.len_ PySem.boot_len (qa_cons (qv 0) qa_nil)) (qv 2) (nomark _)))))
      (qss_one (qs_ret qe_bl))
      qss_nil)
    (qss_one (qs_ret (qe_all (k := 2) (N' := ["goal", "many"]) (tn := 1) (idx := [1]) htb_is_row (hr.mono (by decide)) rfl (show BlockOk ["thing", "many", "width"] (defScope s_is_row) _ ["goal", "many"] 1 [1] from by decide +kernel) rfl rfl C_is_row.code C_is_row.hd hbm rfl bl.all_ (qi_tup (K := K) rfl (qv 0)) (fun _ _ _ _ _ _ _ hr => (qg_name (i := 0) (show List.Nodup [("goal" : Str), ("many" : Str)] from by decide +kernel) rfl (Or.inl rfl))) (fun _ _ _ _ _ _ _ hr => qif_nil) (fun _ _ _ _ _ _ _ hr => (qe_call G_is_whole_below (hr.mono (by decide)) rfl D_is_whole_below.mg D_is_whole_below.fn.kp D_is_whole_below.bd pass0 hP hw hK ht XR.none (qa_cons (qv 0) (qa_cons (qv 1) qa_nil)))))))), ?_⟩
  subst e
  cases d with
  | tup es =>
    refine ⟨by decide, ifB (c := !decide ((es.length : Int) = (n : Nat))) (fun h => ?_) (fun h => ?_)⟩
    · rw [show rowD m n (.tup es) = false by simp at h; simp [rowD]; intro z; omega] at q
      exact .inl q
    · rw [show rowD m n (.tup es) = es.all (belowD m) by simp at h; simp [rowD, show es.length = n by omega]] at q
      refine zall_of (belowD m) (fun τ => ∃ x, τ = [x, some (.int m)]) ⟨none, rfl⟩ (fun d hd τ ⟨x, e⟩ R hR => ?_) (.inl q)
      subst e
      exact ⟨d, m, rfl, List.all_eq_true.mp hk d hd, hR _ ⟨_, rfl⟩⟩
  | _ => first | exact ⟨by decide, .inl q⟩ | exact nomatch hk
def netD : Dv → Bool | .tup rs => decide (1 ≤ rs.length ∧ rs.length ≤ 9) && (rs.all (rowD rs.length 2) || rs.all (rowD rs.length 3)) | _ => false
def netK : Dv → Bool | .tup rs => rs.all rowK | d => kndD d
def zNet : ZSp := fun ds M Q _ => ∃ d, ds = [d] ∧ netK d = true ∧ Q (.bl (netD d)) M
theorem ok_is_net {f f1 f2 f3 : Addr} {fd fd1 fd2 fd3 : FuncData} {c_is_row p_is_row c_is_net p_is_net : Addr} (D : Df K mg "is_net" s_is_net ["thing"] f fd) (C_is_net : DfC base fd c_is_net p_is_net) (hpn : p_is_net ∈ tb) (D_is_row : Df K mg "is_row" s_is_row ["thing", "many", "width"] f3 fd3) (C_is_row : DfC base fd3 c_is_row p_is_row) (hp : p_is_row ∈ tb) (hbm : ∃ bm ob, BMod base mainGlobals mg bm ob)
    (D_is_whole_below : Df K mg "is_whole_below" s_is_whole_below ["thing", "many"] f1 fd1) (D_is_whole : Df K mg "is_whole" s_is_whole ["thing"] f2 fd2) (bl : Bl mg) {tk : Tok} (tx_MOST_PLACES : mg "MOST_PLACES" = some (.int 9 tk)) : FnOk P w K mg base CX0 6 f fd ["thing"] (spZ P w K tb zNet) := by
  have G_is_row := ok_is_row (P := P) (w := w) (tb := tb) D_is_row C_is_row hp hbm D_is_whole_below D_is_whole bl
  refine zdef D sc_is_net (fun ds M Q E ⟨d, e, _⟩ => by rw [e]; rfl) fun A outer s E Γ ds Q' E' hP hw hK ht hr ⟨d, e, hk, q⟩ => ?_
  have htb_is_net : p_is_net ∈ Γ.tb := ht ▸ hpn
  refine ⟨_, (qss_cons (qs_if (QW.pt (qw_or (qt_not (qt_val (qe_callB (q_isinst (K := K) rfl) rfl bl.isinstance_ bt_isinstance (qa_cons (qv 0) (qa_cons (qe_bltn (v := .ty "tuple") rfl bl.tuple_ bt_tuple rfl) qa_nil))))) (qw_or1 (qt_not (qt_chain q_le q_le qe_int (qe_callB (q_len (K := K) rfl hK) rfl bl.len_ PySem.boot_len (qa_cons (qv 0) qa_nil)) (qe_globI (i := 9) rfl tx_MOST_PLACES ⟨_, rfl⟩))))))
      (qss_one (qs_ret qe_bl))
      qss_nil)
    (qss_cons (qs_set (i := 1) sc_is_net.nd rfl (Or.inr rfl) (qe_callB (q_len (K := K) rfl hK) rfl bl.len_ PySem.boot_len (qa_cons (qv 0) qa_nil)))
    (qss_cons (qs_for PassesOwn.never rfl (qi_tup (K := K) rfl (qe_tup (qa_cons qe_int (qa_cons qe_int qa_nil)))) (fun Γ2 eP ew eK et => by have hP := hP.trans eP.symm; have hw := hw.trans ew.symm; have hK := hK.trans eK.symm; have ht := ht.trans et.symm; have htb_is_net := et.symm ▸ htb_is_net; exact ⟨(qg_name (i := 2) sc_is_net.nd rfl (Or.inr rfl)), (qss_one (qs_if (qt_val (qe_all (k := 4) (N' := ["row", "many", "width"]) (tn := 1) (idx := [1, 2]) htb_is_net (hr.mono (by decide)) rfl (show BlockOk ["thing", "many", "width"] (defScope s_is_net) _ ["row", "many", "width"] 1 [1, 2] from by decide +kernel) rfl rfl C_is_net.code C_is_net.hd hbm rfl bl.all_ (qi_tup (K := K) rfl (qv 0)) (fun _ _ _ _ _ _ _ hr => (qg_name (i := 0) (show List.Nodup [("row" : Str), ("many" : Str), ("width" : Str)] from by decide +kernel) rfl (Or.inl rfl))) (fun _ _ _ _ _ _ _ hr => qif_nil) (fun _ _ _ _ _ _ _ hr => (qe_call G_is_row (hr.mono (by decide)) rfl D_is_row.mg D_is_row.fn.kp D_is_row.bd pass0 hP hw hK ht XR.none (qa_cons (qv 0) (qa_cons (qv 1) (qa_cons (qv 2) qa_nil)))))))
      (qss_one (qs_ret qe_bl))
      qss_nil))⟩))
    (qss_one (qs_ret qe_bl))))), ?_⟩
  subst e
  cases d with
  | tup rs =>
    refine ⟨by decide, ?_⟩
    have row : ∀ (n : Nat) (D : Bool → Mh → Prop), (D (rs.all (rowD rs.length n)) Γ.M0) → zAllL (zgName 0) zNoIf (zCall zRow (fun _ _ => False) (zCons (zVar 0) (zCons (zVar 1) (zCons (zVar 2) zNil)))) rs [none, some (.int rs.length), some (.int (n : Nat))] Γ.M0 D := fun n D hD => by
      refine zall_of (rowD rs.length n) (fun τ => ∃ x, τ = [x, some (.int rs.length), some (.int (n : Nat))]) ⟨none, rfl⟩ (fun d hd τ ⟨x, e⟩ R hR => ?_) hD
      subst e
      exact ⟨d, rs.length, n, rfl, List.all_eq_true.mp hk d hd, hR _ ⟨_, rfl⟩⟩
    simp only [zVar, zC, zOp, zII, zIC, zEq, zNe, scalZ, zIs, zIsN, isNonD, zSS, zTest, zBool, zChain, zAnd, zOr, zNot, zAndV, zOrV, zNotV, zIfE, zNil, zCons, zTup, zLst, zLstP, zCB, z1, zLenD, z2I, zAbs, zDivmod, zInt, zList, zListP, zTuple, zSorted, zSet, zLenS, intsM, itemsM, zIsInst, isD, zBM, tyZ, zAppend, zExtend, zPop, zPopAt, zIndexS, zCount, zSum, zReverse, zSetI, zgSub, zNext, zSeq, zDrop, zRet, zRetN, zIfS, zgName, zgNil, zgCons, zgTup, zAsg, zFor, zForM, zComp, zCompP, zTupG, zAll, zSetC, zBlock, zCall, zTry, zRaise, zIsE, zstart, zEndsOf, ziTup, ziLst, ziStr, ziRng1, ziRng2, ziEnumK, ziZip, seqK, zoNone, zoSome, zSl, zSlT, zSlS, zSlL, zIx, zRangeT, zRangeL, zRangeP, zNeg, zTruth, truD, zCatT, zNoIf, zInI, zAllB, zGetR, zDIn, zMGet, lookD, nowK, keyD, zDNewK, zDNewT, zDisp1K, zDisp1T, zDPut, zLenK, zLenT, zRepT, zMulS, zCallL, List.getElem?_cons_zero, List.getElem?_cons_succ, List.map_cons, List.map_nil, List.nil_append, List.cons_append, List.length_cons, List.length_nil, List.replicate_succ, List.replicate_zero, List.set_cons_zero, List.set_cons_succ, Option.join_some, Nat.reduceAdd, Nat.reduceSub, Nat.sub_self, Nat.zero_add, if_true, if_false, Bool.false_eq_true, Bool.not_true, Bool.not_false, true_and, and_true, beq_self_eq_true, String.reduceBEq, zLoop, List.length_map, List.length_set, updM_same, updM_updM, List.append_nil, Int.zero_add, Int.toNat_natCast, rangeD_len, pairsD_len, numD_len, Nat.min_self, atI_zero, decide_true, decide_false, Bool.not_eq_true, bne_self_eq_false]
    refine ifB (fun h1 => ifB (fun h2 => ?_) (fun h2 => ⟨by decide, ?_⟩)) (fun h1 => ?_)
    · rw [show netD (.tup rs) = false by simp at h1 h2; simp [netD]; intro z; omega] at q
      exact .inl q
    · have e : netD (.tup rs) = (rs.all (rowD rs.length 2) || rs.all (rowD rs.length 3)) := by
        simp at h1 h2
        simp only [netD]
        rw [decide_eq_true (by omega), Bool.true_and]
      rw [e] at q
      refine row 2 _ (ifB (fun z => ?_) (fun z => row 3 _ (ifB (fun z2 => ?_) (fun z2 => ?_))))
      · rw [z] at q; exact .inl q
      · rw [z, z2] at q; exact .inl q
      · rw [z, z2] at q; exact .inl q
    · rw [show netD (.tup rs) = false by simp at h1; simp [netD]; intro z; omega] at q
      exact .inl q
  | _ => first | exact ⟨by decide, .inl q⟩ | exact nomatch hk
theorem sc_need_net : FnScope ["thing"] ["thing"] (defScope s_need_net) := ⟨rfl, rfl, rfl, by decide +kernel, rfl, by decide +kernel, by decide +kernel⟩
theorem belowD_ok {m : Int} {g : Int} (h : 0 ≤ g ∧ g < m) : belowD m (.int g) = true := by simp [belowD, h.1, h.2]
theorem netD_ok {net : List (List Int)} {n : Nat} (o : NetOk net n) : netD (eN net) = true := by
  have hr : ∀ d ∈ net.map eI, rowD (net.map eI).length n d = true := fun d hd => by
    obtain ⟨r, hr, rfl⟩ := List.mem_map.mp hd
    obtain ⟨h1, h2⟩ := o.row r hr
    simp only [rowD, List.length_map]
    rw [decide_eq_true h1, Bool.true_and, List.all_eq_true]
    intro d hd
    obtain ⟨g, hg, rfl⟩ := List.mem_map.mp hd
    exact belowD_ok (h2 g hg)
  have ho := o.one
  have hn := o.nine
  simp only [netD, eN]
  rw [decide_eq_true (by rw [List.length_map]; omega), Bool.true_and]
  have ha := List.all_eq_true.mpr hr
  rcases o.wid with rfl | rfl
  · rw [ha]; rfl
  · rw [ha, Bool.or_true]
theorem netK_ok (net : List (List Int)) : netK (eN net) = true := by
  simp only [netK, eN]
  rw [List.all_eq_true]
  intro d hd
  obtain ⟨r, _, rfl⟩ := List.mem_map.mp hd
  simp only [rowK, eI]
  rw [List.all_eq_true]
  intro d hd
  obtain ⟨g, hg, rfl⟩ := List.mem_map.mp hd
  rfl
def zNeed (C : Addr) : ZSp := fun ds M Q E => ∃ d, ds = [d] ∧ netK d = true ∧ (netD d = true → Q .non M) ∧ (netD d = false → E C M)
theorem ok_need_net {f f1 : Addr} {fd fd1 : FuncData} {C0 C_NoNet : Addr} {cs : List Addr} (D : Df K mg "need_net" s_need_net ["thing"] f fd) (D_is_net : Df K mg "is_net" s_is_net ["thing"] f1 fd1) (G_is_net : FnOk P w K mg base CX0 6 f1 fd1 ["thing"] (spZ P w K tb zNet))
    (X_ : Errs K C0 cs) (m_NoNet : C_NoNet ∈ cs) (g_NoNet : mg "NoNet" = some (.ref C_NoNet)) : FnOk P w K mg base (CX1 P w) 7 f fd ["thing"] (spZ P w K tb (zNeed C_NoNet)) := by
  refine zdef1 D sc_need_net (fun ds M Q E ⟨d, e, _⟩ => by rw [e]; rfl) fun A outer s E Γ ds Q' E' hP hw hK ht hE hr ⟨d, e, hk, q1, q2⟩ => ⟨_, (qss_one (qs_if (qt_not (qt_val (qe_call G_is_net (hr.mono (by decide)) rfl D_is_net.mg D_is_net.fn.kp D_is_net.bd pass0 hP hw hK ht XR.none (qa_cons (qv 0) qa_nil))))
      (qss_one (qs_raise (X_.ex _ m_NoNet) PySem.F.excBase_ValueError rfl raise1 hE rfl g_NoNet (qa_cons qe_str qa_nil)))
      qss_nil)), ?_⟩
  subst e
  simp only [zVar, zC, zOp, zII, zIC, zEq, zNe, scalZ, zIs, zIsN, isNonD, zSS, zTest, zBool, zChain, zAnd, zOr, zNot, zAndV, zOrV, zNotV, zIfE, zNil, zCons, zTup, zLst, zLstP, zCB, z1, zLenD, z2I, zAbs, zDivmod, zInt, zList, zListP, zTuple, zSorted, zSet, zLenS, intsM, itemsM, zIsInst, isD, zBM, tyZ, zAppend, zExtend, zPop, zPopAt, zIndexS, zCount, zSum, zReverse, zSetI, zgSub, zNext, zSeq, zDrop, zRet, zRetN, zIfS, zgName, zgNil, zgCons, zgTup, zAsg, zFor, zForM, zComp, zCompP, zTupG, zAll, zSetC, zBlock, zCall, zTry, zRaise, zIsE, zstart, zEndsOf, ziTup, ziLst, ziStr, ziRng1, ziRng2, ziEnumK, ziZip, seqK, zoNone, zoSome, zSl, zSlT, zSlS, zSlL, zIx, zRangeT, zRangeL, zRangeP, zNeg, zTruth, truD, zCatT, zNoIf, zInI, zAllB, zGetR, zDIn, zMGet, lookD, nowK, keyD, zDNewK, zDNewT, zDisp1K, zDisp1T, zDPut, zLenK, zLenT, zRepT, zMulS, zCallL, List.getElem?_cons_zero, List.getElem?_cons_succ, List.map_cons, List.map_nil, List.nil_append, List.cons_append, List.length_cons, List.length_nil, List.replicate_succ, List.replicate_zero, List.set_cons_zero, List.set_cons_succ, Option.join_some, Nat.reduceAdd, Nat.reduceSub, Nat.sub_self, Nat.zero_add, if_true, if_false, Bool.false_eq_true, Bool.not_true, Bool.not_false, true_and, and_true, beq_self_eq_true, String.reduceBEq, zLoop, List.length_map, List.length_set, updM_same, updM_updM, List.append_nil, Int.zero_add, Int.toNat_natCast, rangeD_len, pairsD_len, numD_len, Nat.min_self, atI_zero, decide_true, decide_false, Bool.not_eq_true, bne_self_eq_false]
  refine ⟨d, rfl, hk, ifB (fun h => ?_) (fun h => ?_)⟩
  · exact ⟨by decide, q2 (by simpa using h)⟩
  · exact .inl (q1 (by simpa using h))
end
end My

set_option Elab.async false
set_option maxRecDepth 100000
set_option maxHeartbeats 4000000
namespace My
open PySem L2 PyProof.Rows
section
variable {P : Program} {w : World} {K : PySem.W.Frag} {mg : Str → Option Value} {base : Heap} {tb : Tbs} {C_NoNet C_NoWord C0 : Addr} {cs : List Addr}
theorem sc_signs_of : FnScope ["net"] ["net"] (defScope s_signs_of) := ⟨rfl, rfl, rfl, by decide +kernel, rfl, by decide +kernel, by decide +kernel⟩
theorem sc_is_word : FnScope ["net", "thing", "signs"] ["net", "thing"] (defScope s_is_word) := ⟨rfl, rfl, rfl, by decide +kernel, rfl, by decide +kernel, by decide +kernel⟩
theorem sc_need_word : FnScope ["net", "thing"] ["net", "thing"] (defScope s_need_word) := ⟨rfl, rfl, rfl, by decide +kernel, rfl, by decide +kernel, by decide +kernel⟩
theorem sc_end_of : FnScope ["net", "place", "word", "sign"] ["net", "place", "word"] (defScope s_end_of) := ⟨rfl, rfl, rfl, by decide +kernel, rfl, by decide +kernel, by decide +kernel⟩
theorem sc_all_places : FnScope ["net"] ["net"] (defScope s_all_places) := ⟨rfl, rfl, rfl, by decide +kernel, rfl, by decide +kernel, by decide +kernel⟩
theorem sc_map_of : FnScope ["net", "word"] ["net", "word"] (defScope s_map_of) := ⟨rfl, rfl, rfl, by decide +kernel, rfl, by decide +kernel, by decide +kernel⟩
def sgn (w : Nat) : Str := Txt.slice "abc" none (some (w : Int))
theorem net_at {net : List (List Int)} {n k : Nat} (h : k < net.length) : atI (net.map eI) ((k : Nat) : Int) = some (eI net[k]) := atI_nat (by rw [List.getElem?_map, List.getElem?_eq_getElem h]; rfl)
theorem net_at0 {net : List (List Int)} {n : Nat} (o : NetOk net n) : ∃ r, atI (net.map eI) 0 = some (eI r) ∧ r.length = n := by
  have := o.one
  exact ⟨net[0], net_at (n := n) (k := 0) (by omega), (o.row _ (List.getElem_mem _)).1⟩
def zSigns : ZSp := fun ds M Q _ => ∃ net n, ds = [eN net] ∧ NetOk net n ∧ Q (.str (sgn n)) M
theorem ok_signs_of {f f1 : Addr} {fd fd1 : FuncData} (D : Df K mg "signs_of" s_signs_of ["net"] f fd)
    (D_need_net : Df K mg "need_net" s_need_net ["thing"] f1 fd1) (G_need_net : FnOk P w K mg base (CX1 P w) 7 f1 fd1 ["thing"] (spZ P w K tb (zNeed C_NoNet))) (bl : Bl mg) {tk : Tok} (tx_SIGNS : mg "SIGNS" = some (.str "abc" tk)) :
    FnOk P w K mg base (CX1 P w) 8 f fd ["net"] (spZ P w K tb zSigns) := by
  refine zdef1 D sc_signs_of (fun ds M Q E ⟨net, n, e, _⟩ => by rw [e]; rfl) fun A outer s E Γ ds Q' E' hP hw hK ht hE hr ⟨net, n, e, o, q⟩ => ⟨_, (qss_cons (qs_expr (qe_call G_need_net (hr.mono (by decide)) rfl D_need_net.mg D_need_net.fn.kp D_need_net.bd pass1 hP hw hK ht hE (qa_cons (qv 0) qa_nil)))
    (qss_one (qs_ret (qe_slice q_slS (qe_globS (z := "abc") rfl tx_SIGNS ⟨_, rfl⟩) qo_none (qo_some (qe_callB (q_len (K := K) rfl hK) rfl bl.len_ PySem.boot_len (qa_cons (qe_ix (q_ix (K := K) rfl) (qv 0) qe_int (fun _ _ => rfl)) qa_nil))))))), ?_⟩
  subst e
  obtain ⟨r, h0, hl⟩ := net_at0 o
  refine ⟨_, rfl, netK_ok net, fun _ => ?_, fun h => by rw [netD_ok o] at h; cases h⟩
  simp only [zVar, zC, zOp, zII, zIC, zEq, zNe, scalZ, zIs, zIsN, isNonD, zSS, zTest, zBool, zChain, zAnd, zOr, zNot, zAndV, zOrV, zNotV, zIfE, zNil, zCons, zTup, zLst, zLstP, zCB, z1, zLenD, z2I, zAbs, zDivmod, zInt, zList, zListP, zTuple, zSorted, zSet, zLenS, intsM, itemsM, zIsInst, isD, zBM, tyZ, zAppend, zExtend, zPop, zPopAt, zIndexS, zCount, zSum, zReverse, zSetI, zgSub, zNext, zSeq, zDrop, zRet, zRetN, zIfS, zgName, zgNil, zgCons, zgTup, zAsg, zFor, zForM, zComp, zCompP, zTupG, zAll, zSetC, zBlock, zCall, zTry, zRaise, zIsE, zstart, zEndsOf, ziTup, ziLst, ziStr, ziRng1, ziRng2, ziEnumK, ziZip, seqK, zoNone, zoSome, zSl, zSlT, zSlS, zSlL, zIx, zRangeT, zRangeL, zRangeP, zNeg, zTruth, truD, zCatT, zNoIf, zInI, zAllB, zGetR, zDIn, zMGet, lookD, nowK, keyD, zDNewK, zDNewT, zDisp1K, zDisp1T, zDPut, zLenK, zLenT, zRepT, zMulS, zCallL, List.getElem?_cons_zero, List.getElem?_cons_succ, List.map_cons, List.map_nil, List.nil_append, List.cons_append, List.length_cons, List.length_nil, List.replicate_succ, List.replicate_zero, List.set_cons_zero, List.set_cons_succ, Option.join_some, Nat.reduceAdd, Nat.reduceSub, Nat.sub_self, Nat.zero_add, if_true, if_false, Bool.false_eq_true, Bool.not_true, Bool.not_false, true_and, and_true, beq_self_eq_true, String.reduceBEq, zLoop, List.length_map, List.length_set, updM_same, updM_updM, List.append_nil, Int.zero_add, Int.toNat_natCast, rangeD_len, pairsD_len, numD_len, Nat.min_self, atI_zero, decide_true, decide_false, Bool.not_eq_true, bne_self_eq_false, h0, hl]
  exact ⟨by decide, .inl q⟩
def WordOf (n : Nat) (z : Str) : Prop := ∀ c ∈ z.cps.toList, ∃ k : Nat, k < n ∧ c = 97 + k
theorem sign_in {n k : Nat} (hn : n = 2 ∨ n = 3) (hk : k < n) : inStr ⟨#[97 + k]⟩ (sgn n) = true := by
  rcases hn with rfl | rfl
  · have : k = 0 ∨ k = 1 := by omega
    rcases this with rfl | rfl <;> decide +kernel
  · have : k = 0 ∨ k = 1 ∨ k = 2 := by omega
    rcases this with rfl | rfl | rfl <;> decide +kernel
def inB (n : Nat) : Dv → Bool | .str y => inStr y (sgn n) | _ => false
theorem all_in {n : Nat} {z : Str} (hn : n = 2 ∨ n = 3) (hw : WordOf n z) : (signsD z).all (inB n) = true := by
  rw [List.all_eq_true]
  intro d hd
  obtain ⟨c, hc, rfl⟩ := List.mem_map.mp hd
  obtain ⟨k, hk, rfl⟩ := hw c hc
  exact sign_in hn hk
def zWord : ZSp := fun ds M Q _ => ∃ net n z, ds = [eN net, .str z] ∧ NetOk net n ∧ WordOf n z ∧ z.length ≤ 2000 ∧ Q (.bl true) M
theorem ok_is_word {f f1 : Addr} {fd fd1 : FuncData} {c_is_word p_is_word : Addr} (D : Df K mg "is_word" s_is_word ["net", "thing"] f fd) (C_is_word : DfC base fd c_is_word p_is_word) (hp : p_is_word ∈ tb) (hbm : ∃ bm ob, BMod base mainGlobals mg bm ob)
    (D_signs_of : Df K mg "signs_of" s_signs_of ["net"] f1 fd1) (G_signs_of : FnOk P w K mg base (CX1 P w) 8 f1 fd1 ["net"] (spZ P w K tb zSigns)) (bl : Bl mg) {tk : Tok} (tx_MOST_SIGNS_OF_WORD : mg "MOST_SIGNS_OF_WORD" = some (.int 2000 tk)) :
    FnOk P w K mg base (CX1 P w) 9 f fd ["net", "thing"] (spZ P w K tb zWord) := by
  refine zdef1 D sc_is_word (fun ds M Q E ⟨net, n, z, e, _⟩ => by rw [e]; rfl) fun A outer s E Γ ds Q' E' hP hw hK ht hE hr ⟨net, n, z, e, o, hW, hl, q⟩ => ?_
  have htb_is_word : p_is_word ∈ Γ.tb := ht ▸ hp
  refine ⟨_, (qss_cons (qs_set (i := 2) sc_is_word.nd rfl (Or.inr rfl) (qe_call G_signs_of (hr.mono (by decide)) rfl D_signs_of.mg D_signs_of.fn.kp D_signs_of.bd pass1 hP hw hK ht hE (qa_cons (qv 0) qa_nil)))
    (qss_cons (qs_if (QW.pt (qw_or (qt_not (qt_val (qe_callB (q_isinst (K := K) rfl) rfl bl.isinstance_ bt_isinstance (qa_cons (qv 1) (qa_cons (qe_bltn (v := .ty "str") rfl bl.str_ bt_str rfl) qa_nil))))) (qw_or1 (qt_cmpR q_gt (qe_callB (q_len (K := K) rfl hK) rfl bl.len_ PySem.boot_len (qa_cons (qv 1) qa_nil)) (qe_globI (i := 2000) rfl tx_MOST_SIGNS_OF_WORD ⟨_, rfl⟩) (nomark _)))))
      (qss_one (qs_ret qe_bl))
      qss_nil)
    (qss_one (qs_ret (qe_all (k := 0) (N' := ["sign", "signs"]) (tn := 1) (idx := [2]) htb_is_word (hr.mono (by decide)) rfl (show BlockOk ["net", "thing", "signs"] (defScope s_is_word) _ ["sign", "signs"] 1 [2] from by decide +kernel) rfl rfl C_is_word.code C_is_word.hd hbm rfl bl.all_ (qi_str (qv 1)) (fun _ _ _ _ _ _ _ hr => (qg_name (i := 0) (show List.Nodup [("sign" : Str), ("signs" : Str)] from by decide +kernel) rfl (Or.inl rfl))) (fun _ _ _ _ _ _ _ hr => qif_nil) (fun _ _ _ _ _ _ _ hr => (qe_cmpR q_in_str (qv 0) (qv 1) (by rfl)))))))), ?_⟩
  subst e
  have big : (2000 : Nat) < sizeLine := by decide
  simp only [zVar, zC, zOp, zII, zIC, zEq, zNe, scalZ, zIs, zIsN, isNonD, zSS, zTest, zBool, zChain, zAnd, zOr, zNot, zAndV, zOrV, zNotV, zIfE, zNil, zCons, zTup, zLst, zLstP, zCB, z1, zLenD, z2I, zAbs, zDivmod, zInt, zList, zListP, zTuple, zSorted, zSet, zLenS, intsM, itemsM, zIsInst, isD, zBM, tyZ, zAppend, zExtend, zPop, zPopAt, zIndexS, zCount, zSum, zReverse, zSetI, zgSub, zNext, zSeq, zDrop, zRet, zRetN, zIfS, zgName, zgNil, zgCons, zgTup, zAsg, zFor, zForM, zComp, zCompP, zTupG, zAll, zSetC, zBlock, zCall, zTry, zRaise, zIsE, zstart, zEndsOf, ziTup, ziLst, ziStr, ziRng1, ziRng2, ziEnumK, ziZip, seqK, zoNone, zoSome, zSl, zSlT, zSlS, zSlL, zIx, zRangeT, zRangeL, zRangeP, zNeg, zTruth, truD, zCatT, zNoIf, zInI, zAllB, zGetR, zDIn, zMGet, lookD, nowK, keyD, zDNewK, zDNewT, zDisp1K, zDisp1T, zDPut, zLenK, zLenT, zRepT, zMulS, zCallL, List.getElem?_cons_zero, List.getElem?_cons_succ, List.map_cons, List.map_nil, List.nil_append, List.cons_append, List.length_cons, List.length_nil, List.replicate_succ, List.replicate_zero, List.set_cons_zero, List.set_cons_succ, Option.join_some, Nat.reduceAdd, Nat.reduceSub, Nat.sub_self, Nat.zero_add, if_true, if_false, Bool.false_eq_true, Bool.not_true, Bool.not_false, true_and, and_true, beq_self_eq_true, String.reduceBEq, zLoop, List.length_map, List.length_set, updM_same, updM_updM, List.append_nil, Int.zero_add, Int.toNat_natCast, rangeD_len, pairsD_len, numD_len, Nat.min_self, atI_zero, decide_true, decide_false, Bool.not_eq_true, bne_self_eq_false]
  refine ⟨net, n, rfl, o, ?_⟩
  simp only [zVar, zC, zOp, zII, zIC, zEq, zNe, scalZ, zIs, zIsN, isNonD, zSS, zTest, zBool, zChain, zAnd, zOr, zNot, zAndV, zOrV, zNotV, zIfE, zNil, zCons, zTup, zLst, zLstP, zCB, z1, zLenD, z2I, zAbs, zDivmod, zInt, zList, zListP, zTuple, zSorted, zSet, zLenS, intsM, itemsM, zIsInst, isD, zBM, tyZ, zAppend, zExtend, zPop, zPopAt, zIndexS, zCount, zSum, zReverse, zSetI, zgSub, zNext, zSeq, zDrop, zRet, zRetN, zIfS, zgName, zgNil, zgCons, zgTup, zAsg, zFor, zForM, zComp, zCompP, zTupG, zAll, zSetC, zBlock, zCall, zTry, zRaise, zIsE, zstart, zEndsOf, ziTup, ziLst, ziStr, ziRng1, ziRng2, ziEnumK, ziZip, seqK, zoNone, zoSome, zSl, zSlT, zSlS, zSlL, zIx, zRangeT, zRangeL, zRangeP, zNeg, zTruth, truD, zCatT, zNoIf, zInI, zAllB, zGetR, zDIn, zMGet, lookD, nowK, keyD, zDNewK, zDNewT, zDisp1K, zDisp1T, zDPut, zLenK, zLenT, zRepT, zMulS, zCallL, List.getElem?_cons_zero, List.getElem?_cons_succ, List.map_cons, List.map_nil, List.nil_append, List.cons_append, List.length_cons, List.length_nil, List.replicate_succ, List.replicate_zero, List.set_cons_zero, List.set_cons_succ, Option.join_some, Nat.reduceAdd, Nat.reduceSub, Nat.sub_self, Nat.zero_add, if_true, if_false, Bool.false_eq_true, Bool.not_true, Bool.not_false, true_and, and_true, beq_self_eq_true, String.reduceBEq, zLoop, List.length_map, List.length_set, updM_same, updM_updM, List.append_nil, Int.zero_add, Int.toNat_natCast, rangeD_len, pairsD_len, numD_len, Nat.min_self, atI_zero, decide_true, decide_false, Bool.not_eq_true, bne_self_eq_false]
  refine ⟨by decide, by omega, ifB (fun h => ?_) (fun h => ?_)⟩
  · exact absurd (by simpa using h) (by omega : ¬ (2000 : Int) < (z.length : Nat))
  · refine zall_of (inB n) (fun τ => ∃ x, τ = [x, some (.str (sgn n))]) ⟨none, rfl⟩ (fun d hd τ ⟨x, e⟩ R hR => ?_) (by rw [all_in o.wid hW]; exact .inl q)
    subst e
    obtain ⟨c, hc, rfl⟩ := List.mem_map.mp hd
    exact ⟨trivial, hR _ ⟨_, rfl⟩⟩
def zNeedWord : ZSp := fun ds M Q _ => ∃ net n z, ds = [eN net, .str z] ∧ NetOk net n ∧ WordOf n z ∧ z.length ≤ 2000 ∧ Q .non M
theorem ok_need_word {f f1 : Addr} {fd fd1 : FuncData} (D : Df K mg "need_word" s_need_word ["net", "thing"] f fd) (D_is_word : Df K mg "is_word" s_is_word ["net", "thing"] f1 fd1) (G_is_word : FnOk P w K mg base (CX1 P w) 9 f1 fd1 ["net", "thing"] (spZ P w K tb zWord))
    (X_ : Errs K C0 cs) (m_NoWord : C_NoWord ∈ cs) (g_NoWord : mg "NoWord" = some (.ref C_NoWord)) : FnOk P w K mg base (CX1 P w) 10 f fd ["net", "thing"] (spZ P w K tb zNeedWord) := by
  refine zdef1 D sc_need_word (fun ds M Q E ⟨net, n, d, e, _⟩ => by rw [e]; rfl) fun A outer s E Γ ds Q' E' hP hw hK ht hE hr ⟨net, n, z, e, o, hW, hl, q⟩ => ⟨_, (qss_one (qs_if (qt_not (qt_val (qe_call G_is_word (hr.mono (by decide)) rfl D_is_word.mg D_is_word.fn.kp D_is_word.bd pass1 hP hw hK ht hE (qa_cons (qv 0) (qa_cons (qv 1) qa_nil)))))
      (qss_one (qs_raise (X_.ex _ m_NoWord) PySem.F.excBase_ValueError rfl raise1 hE rfl g_NoWord (qa_cons qe_str qa_nil)))
      qss_nil)), ?_⟩
  subst e
  simp only [zVar, zC, zOp, zII, zIC, zEq, zNe, scalZ, zIs, zIsN, isNonD, zSS, zTest, zBool, zChain, zAnd, zOr, zNot, zAndV, zOrV, zNotV, zIfE, zNil, zCons, zTup, zLst, zLstP, zCB, z1, zLenD, z2I, zAbs, zDivmod, zInt, zList, zListP, zTuple, zSorted, zSet, zLenS, intsM, itemsM, zIsInst, isD, zBM, tyZ, zAppend, zExtend, zPop, zPopAt, zIndexS, zCount, zSum, zReverse, zSetI, zgSub, zNext, zSeq, zDrop, zRet, zRetN, zIfS, zgName, zgNil, zgCons, zgTup, zAsg, zFor, zForM, zComp, zCompP, zTupG, zAll, zSetC, zBlock, zCall, zTry, zRaise, zIsE, zstart, zEndsOf, ziTup, ziLst, ziStr, ziRng1, ziRng2, ziEnumK, ziZip, seqK, zoNone, zoSome, zSl, zSlT, zSlS, zSlL, zIx, zRangeT, zRangeL, zRangeP, zNeg, zTruth, truD, zCatT, zNoIf, zInI, zAllB, zGetR, zDIn, zMGet, lookD, nowK, keyD, zDNewK, zDNewT, zDisp1K, zDisp1T, zDPut, zLenK, zLenT, zRepT, zMulS, zCallL, List.getElem?_cons_zero, List.getElem?_cons_succ, List.map_cons, List.map_nil, List.nil_append, List.cons_append, List.length_cons, List.length_nil, List.replicate_succ, List.replicate_zero, List.set_cons_zero, List.set_cons_succ, Option.join_some, Nat.reduceAdd, Nat.reduceSub, Nat.sub_self, Nat.zero_add, if_true, if_false, Bool.false_eq_true, Bool.not_true, Bool.not_false, true_and, and_true, beq_self_eq_true, String.reduceBEq, zLoop, List.length_map, List.length_set, updM_same, updM_updM, List.append_nil, Int.zero_add, Int.toNat_natCast, rangeD_len, pairsD_len, numD_len, Nat.min_self, atI_zero, decide_true, decide_false, Bool.not_eq_true, bne_self_eq_false]
  exact ⟨net, n, z, rfl, o, hW, hl, .inl q⟩

def stepI (net : List (List Int)) (p : Int) (c : Nat) : Int := (net.getD p.toNat []).getD (c - 97) 0
def endI (net : List (List Int)) (p : Int) (cs : List Nat) : Int := cs.foldl (stepI net) p
theorem occ_abc {k : Nat} (hk : k < 3) : ∃ rest, Builtin.Str.occurrences "abc" ⟨#[97 + k]⟩ 0 (Str.length "abc") 1 = k :: rest := by
  have : k = 0 ∨ k = 1 ∨ k = 2 := by omega
  rcases this with rfl | rfl | rfl
  · exact ⟨[], by decide +kernel⟩
  · exact ⟨[], by decide +kernel⟩
  · exact ⟨[], by decide +kernel⟩
theorem step_at {net : List (List Int)} {n : Nat} (o : NetOk net n) {p : Int} (h0 : 0 ≤ p) (h1 : p < (net.length : Nat)) {k : Nat} (hk : k < n) :
    (0 ≤ stepI net p (97 + k) ∧ stepI net p (97 + k) < (net.length : Nat)) ∧ ∃ r, atI (net.map eI) p = some (eI r) ∧ atI (r.map Dv.int) ((k : Nat) : Int) = some (.int (stepI net p (97 + k))) := by
  have hp : p.toNat < net.length := by omega
  have e : net.getD p.toNat [] = net[p.toNat] := by rw [List.getD_eq_getElem?_getD, List.getElem?_eq_getElem hp]; rfl
  obtain ⟨o1, o2⟩ := o.row _ (List.getElem_mem hp)
  have ek : 97 + k - 97 = k := by omega
  have hk' : k < net[p.toNat].length := by omega
  have es : stepI net p (97 + k) = net[p.toNat][k] := by
    unfold stepI
    rw [e, ek, List.getD_eq_getElem?_getD, List.getElem?_eq_getElem hk']; rfl
  rw [es]
  refine ⟨o2 _ (List.getElem_mem hk'), net[p.toNat], ?_, atI_nat (by rw [List.getElem?_map, List.getElem?_eq_getElem hk']; rfl)⟩
  have := net_at (n := n) hp
  rwa [show ((p.toNat : Nat) : Int) = p by omega] at this
theorem end_ok {net : List (List Int)} {n : Nat} (o : NetOk net n) : ∀ (cs : List Nat) {p : Int}, 0 ≤ p → p < (net.length : Nat) → (∀ c ∈ cs, ∃ k : Nat, k < n ∧ c = 97 + k) → 0 ≤ endI net p cs ∧ endI net p cs < (net.length : Nat)
  | [], p, h0, h1, _ => ⟨h0, h1⟩
  | c :: cs, p, h0, h1, hw => by
    obtain ⟨k, hk, rfl⟩ := hw c List.mem_cons_self
    obtain ⟨s0, s1⟩ := (step_at o h0 h1 hk).1
    exact end_ok o cs s0 s1 fun c hc => hw c (List.mem_cons_of_mem _ hc)
theorem signsD_at {z : Str} {i : Nat} {y : Dv} (h : (signsD z)[i]? = some y) : ∃ c, z.cps.toList[i]? = some c ∧ y = .str ⟨#[c]⟩ := by
  unfold signsD at h
  rw [List.getElem?_map] at h
  cases e : z.cps.toList[i]? with
  | none => rw [e] at h; cases h
  | some c => rw [e] at h; exact ⟨c, rfl, (Option.some.inj h).symm⟩
theorem endI_take {net : List (List Int)} {p : Int} {cs : List Nat} {i c : Nat} (h : cs[i]? = some c) : endI net p (cs.take (i + 1)) = stepI net (endI net p (cs.take i)) c := by
  rw [List.take_add_one, h]
  unfold endI
  rw [Option.toList_some, List.foldl_append]; rfl
def zEnd : ZSp := fun ds M Q _ => ∃ net n p z, ds = [eN net, .int p, .str z] ∧ NetOk net n ∧ 0 ≤ p ∧ p < (net.length : Nat) ∧ WordOf n z ∧ Q (.int (endI net p z.cps.toList)) M
theorem ok_end_of {f : Addr} {fd : FuncData} {tk : Tok} (D : Df K mg "end_of" s_end_of ["net", "place", "word"] f fd) (tx_SIGNS : mg "SIGNS" = some (.str "abc" tk)) : FnOk P w K mg base CX0 1 f fd ["net", "place", "word"] (spZ P w K tb zEnd) := by
  refine zdef D sc_end_of (fun ds M Q E ⟨net, n, p, z, e, _⟩ => by rw [e]; rfl) fun A outer s E Γ ds Q' E' hP hw hK ht hr ⟨net, n, p, z, e, o, h0, h1, hW, q⟩ => ⟨_, (qss_cons (qs_for PassesOwn.never rfl (qi_str (qv 2)) (fun Γ2 eP ew eK et => by have hP := hP.trans eP.symm; have hw := hw.trans ew.symm; have hK := hK.trans eK.symm; have ht := ht.trans et.symm; exact ⟨(qg_name (i := 3) sc_end_of.nd rfl (Or.inl rfl)), (qss_one (qs_set (i := 1) sc_end_of.nd rfl (Or.inl rfl) (qe_ix (q_ix (K := K) rfl) (qe_ix (q_ix (K := K) rfl) (qv 0) (qv 1) (fun _ _ => rfl)) (qe_bm (K := K) rfl PySem.F.plainAttrs_str PySem.F.slot_str_index PySem.F.type_str_index q_indexS (qe_globS (z := "abc") rfl tx_SIGNS ⟨_, rfl⟩) (qa_cons (qv 3) qa_nil)) (fun _ _ => rfl))))⟩))
    (qss_one (qs_ret (qv 1)))), ?_⟩
  subst e
  simp only [zVar, zC, zOp, zII, zIC, zEq, zNe, scalZ, zIs, zIsN, isNonD, zSS, zTest, zBool, zChain, zAnd, zOr, zNot, zAndV, zOrV, zNotV, zIfE, zNil, zCons, zTup, zLst, zLstP, zCB, z1, zLenD, z2I, zAbs, zDivmod, zInt, zList, zListP, zTuple, zSorted, zSet, zLenS, intsM, itemsM, zIsInst, isD, zBM, tyZ, zAppend, zExtend, zPop, zPopAt, zIndexS, zCount, zSum, zReverse, zSetI, zgSub, zNext, zSeq, zDrop, zRet, zRetN, zIfS, zgName, zgNil, zgCons, zgTup, zAsg, zFor, zForM, zComp, zCompP, zTupG, zAll, zSetC, zBlock, zCall, zTry, zRaise, zIsE, zstart, zEndsOf, ziTup, ziLst, ziStr, ziRng1, ziRng2, ziEnumK, ziZip, seqK, zoNone, zoSome, zSl, zSlT, zSlS, zSlL, zIx, zRangeT, zRangeL, zRangeP, zNeg, zTruth, truD, zCatT, zNoIf, zInI, zAllB, zGetR, zDIn, zMGet, lookD, nowK, keyD, zDNewK, zDNewT, zDisp1K, zDisp1T, zDPut, zLenK, zLenT, zRepT, zMulS, zCallL, List.getElem?_cons_zero, List.getElem?_cons_succ, List.map_cons, List.map_nil, List.nil_append, List.cons_append, List.length_cons, List.length_nil, List.replicate_succ, List.replicate_zero, List.set_cons_zero, List.set_cons_succ, Option.join_some, Nat.reduceAdd, Nat.reduceSub, Nat.sub_self, Nat.zero_add, if_true, if_false, Bool.false_eq_true, Bool.not_true, Bool.not_false, true_and, and_true, beq_self_eq_true, String.reduceBEq, zLoop, List.length_map, List.length_set, updM_same, updM_updM, List.append_nil, Int.zero_add, Int.toNat_natCast, rangeD_len, pairsD_len, numD_len, Nat.min_self, atI_zero, decide_true, decide_false, Bool.not_eq_true, bne_self_eq_false]
  refine zloop_inv (fun i ρ M => (∃ x, ρ = [some (eN net), some (.int (endI net p (z.cps.toList.take i))), some (.str z), x]) ∧ M = Γ.M0) ⟨⟨_, rfl⟩, rfl⟩ (fun i d ρ M N hd ⟨⟨x, e⟩, eM⟩ hN => ?_) (fun ρ M ⟨⟨x, e⟩, eM⟩ => ?_)
  · subst e eM
    obtain ⟨c, hc, rfl⟩ := signsD_at hd
    obtain ⟨k, hk, rfl⟩ := hW c (List.mem_of_getElem? hc)
    obtain ⟨a0, a1⟩ := end_ok o (z.cps.toList.take i) h0 h1 fun c hc => hW c (List.mem_of_mem_take hc)
    obtain ⟨_, r, hr1, hr2⟩ := step_at o a0 a1 hk
    obtain ⟨rest, hi⟩ := occ_abc (show k < 3 by have := o.wid; omega)
    simp only [zVar, zC, zOp, zII, zIC, zEq, zNe, scalZ, zIs, zIsN, isNonD, zSS, zTest, zBool, zChain, zAnd, zOr, zNot, zAndV, zOrV, zNotV, zIfE, zNil, zCons, zTup, zLst, zLstP, zCB, z1, zLenD, z2I, zAbs, zDivmod, zInt, zList, zListP, zTuple, zSorted, zSet, zLenS, intsM, itemsM, zIsInst, isD, zBM, tyZ, zAppend, zExtend, zPop, zPopAt, zIndexS, zCount, zSum, zReverse, zSetI, zgSub, zNext, zSeq, zDrop, zRet, zRetN, zIfS, zgName, zgNil, zgCons, zgTup, zAsg, zFor, zForM, zComp, zCompP, zTupG, zAll, zSetC, zBlock, zCall, zTry, zRaise, zIsE, zstart, zEndsOf, ziTup, ziLst, ziStr, ziRng1, ziRng2, ziEnumK, ziZip, seqK, zoNone, zoSome, zSl, zSlT, zSlS, zSlL, zIx, zRangeT, zRangeL, zRangeP, zNeg, zTruth, truD, zCatT, zNoIf, zInI, zAllB, zGetR, zDIn, zMGet, lookD, nowK, keyD, zDNewK, zDNewT, zDisp1K, zDisp1T, zDPut, zLenK, zLenT, zRepT, zMulS, zCallL, List.getElem?_cons_zero, List.getElem?_cons_succ, List.map_cons, List.map_nil, List.nil_append, List.cons_append, List.length_cons, List.length_nil, List.replicate_succ, List.replicate_zero, List.set_cons_zero, List.set_cons_succ, Option.join_some, Nat.reduceAdd, Nat.reduceSub, Nat.sub_self, Nat.zero_add, if_true, if_false, Bool.false_eq_true, Bool.not_true, Bool.not_false, true_and, and_true, beq_self_eq_true, String.reduceBEq, zLoop, List.length_map, List.length_set, updM_same, updM_updM, List.append_nil, Int.zero_add, Int.toNat_natCast, rangeD_len, pairsD_len, numD_len, Nat.min_self, atI_zero, decide_true, decide_false, Bool.not_eq_true, bne_self_eq_false, hr1, hi, hr2, eN, eI]
    exact hN _ _ ⟨⟨_, by rw [endI_take hc]⟩, rfl⟩
  · subst e eM
    have : z.cps.toList.take (signsD z).length = z.cps.toList := by unfold signsD; rw [List.length_map, List.take_length]
    rw [this]
    exact .inl q
def zPlaces : ZSp := fun ds M Q _ => ∃ net n, ds = [eN net] ∧ NetOk net n ∧ Q (eI (rangeI net.length)) M
theorem ok_all_places {f : Addr} {fd : FuncData} (D : Df K mg "all_places" s_all_places ["net"] f fd) (bl : Bl mg) : FnOk P w K mg base CX0 1 f fd ["net"] (spZ P w K tb zPlaces) := by
  refine zdef D sc_all_places (fun ds M Q E ⟨net, n, e, _⟩ => by rw [e]; rfl) fun A outer s E Γ ds Q' E' hP hw hK ht hr ⟨net, n, e, o, q⟩ => ⟨_, (qss_one (qs_ret (qe_tuplerange rfl rfl bl.tuple_ rfl bl.range_ (qe_callB (q_len (K := K) rfl hK) rfl bl.len_ PySem.boot_len (qa_cons (qv 0) qa_nil))))), ?_⟩
  subst e
  have := o.nine
  simp only [zVar, zC, zOp, zII, zIC, zEq, zNe, scalZ, zIs, zIsN, isNonD, zSS, zTest, zBool, zChain, zAnd, zOr, zNot, zAndV, zOrV, zNotV, zIfE, zNil, zCons, zTup, zLst, zLstP, zCB, z1, zLenD, z2I, zAbs, zDivmod, zInt, zList, zListP, zTuple, zSorted, zSet, zLenS, intsM, itemsM, zIsInst, isD, zBM, tyZ, zAppend, zExtend, zPop, zPopAt, zIndexS, zCount, zSum, zReverse, zSetI, zgSub, zNext, zSeq, zDrop, zRet, zRetN, zIfS, zgName, zgNil, zgCons, zgTup, zAsg, zFor, zForM, zComp, zCompP, zTupG, zAll, zSetC, zBlock, zCall, zTry, zRaise, zIsE, zstart, zEndsOf, ziTup, ziLst, ziStr, ziRng1, ziRng2, ziEnumK, ziZip, seqK, zoNone, zoSome, zSl, zSlT, zSlS, zSlL, zIx, zRangeT, zRangeL, zRangeP, zNeg, zTruth, truD, zCatT, zNoIf, zInI, zAllB, zGetR, zDIn, zMGet, lookD, nowK, keyD, zDNewK, zDNewT, zDisp1K, zDisp1T, zDPut, zLenK, zLenT, zRepT, zMulS, zCallL, List.getElem?_cons_zero, List.getElem?_cons_succ, List.map_cons, List.map_nil, List.nil_append, List.cons_append, List.length_cons, List.length_nil, List.replicate_succ, List.replicate_zero, List.set_cons_zero, List.set_cons_succ, Option.join_some, Nat.reduceAdd, Nat.reduceSub, Nat.sub_self, Nat.zero_add, if_true, if_false, Bool.false_eq_true, Bool.not_true, Bool.not_false, true_and, and_true, beq_self_eq_true, String.reduceBEq, zLoop, List.length_map, List.length_set, updM_same, updM_updM, List.append_nil, Int.zero_add, Int.toNat_natCast, rangeD_len, pairsD_len, numD_len, Nat.min_self, atI_zero, decide_true, decide_false, Bool.not_eq_true, bne_self_eq_false, eN]
  exact ⟨by omega, by omega, .inl q⟩
def mapI (net : List (List Int)) (z : Str) : List Int := (rangeI net.length).map fun p => endI net p z.cps.toList
def zMapOf : ZSp := fun ds M Q _ => ∃ net n z, ds = [eN net, .str z] ∧ NetOk net n ∧ WordOf n z ∧ z.length ≤ 2000 ∧ Q (eI (mapI net z)) M
theorem ok_map_of {f f1 f2 f3 : Addr} {fd fd1 fd2 fd3 : FuncData} {c_map_of p_map_of : Addr} (D : Df K mg "map_of" s_map_of ["net", "word"] f fd) (C_map_of : DfC base fd c_map_of p_map_of) (hp : p_map_of ∈ tb) (hbm : ∃ bm ob, BMod base mainGlobals mg bm ob)
    (D_need_net : Df K mg "need_net" s_need_net ["thing"] f1 fd1) (G_need_net : FnOk P w K mg base (CX1 P w) 7 f1 fd1 ["thing"] (spZ P w K tb (zNeed C_NoNet)))
    (D_need_word : Df K mg "need_word" s_need_word ["net", "thing"] f2 fd2) (G_need_word : FnOk P w K mg base (CX1 P w) 10 f2 fd2 ["net", "thing"] (spZ P w K tb zNeedWord))
    (D_end_of : Df K mg "end_of" s_end_of ["net", "place", "word"] f3 fd3) (G_end_of : FnOk P w K mg base CX0 1 f3 fd3 ["net", "place", "word"] (spZ P w K tb zEnd)) (bl : Bl mg) :
    FnOk P w K mg base (CX1 P w) 11 f fd ["net", "word"] (spZ P w K tb zMapOf) := by
  refine zdef1 D sc_map_of (fun ds M Q E ⟨net, n, z, e, _⟩ => by rw [e]; rfl) fun A outer s E Γ ds Q' E' hP hw hK ht hE hr ⟨net, n, z, e, o, hW, hl, q⟩ => ?_
  have htb_map_of : p_map_of ∈ Γ.tb := ht ▸ hp
  refine ⟨_, (qss_cons (qs_expr (qe_call G_need_net (hr.mono (by decide)) rfl D_need_net.mg D_need_net.fn.kp D_need_net.bd pass1 hP hw hK ht hE (qa_cons (qv 0) qa_nil)))
    (qss_cons (qs_expr (qe_call G_need_word (hr.mono (by decide)) rfl D_need_word.mg D_need_word.fn.kp D_need_word.bd pass1 hP hw hK ht hE (qa_cons (qv 0) (qa_cons (qv 1) qa_nil))))
    (qss_one (qs_ret (qe_tupleGen (k := 1) (N' := ["place", "net", "word"]) (tn := 1) (idx := [0, 1]) htb_map_of (hr.mono (by decide)) rfl (show BlockOk ["net", "word"] (defScope s_map_of) _ ["place", "net", "word"] 1 [0, 1] from by decide +kernel) rfl rfl C_map_of.code C_map_of.hd hbm rfl bl.tuple_ (qi_range1 rfl bl.range_ (qa_cons (qe_callB (q_len (K := K) rfl hK) rfl bl.len_ PySem.boot_len (qa_cons (qv 0) qa_nil)) qa_nil)) (fun _ _ _ _ _ _ _ hr => (qg_name (i := 0) (show List.Nodup [("place" : Str), ("net" : Str), ("word" : Str)] from by decide +kernel) rfl (Or.inl rfl))) (fun _ _ _ _ _ _ _ hr => qif_nil) (fun _ _ _ _ _ _ _ hr => (qe_call G_end_of (hr.mono (by decide)) rfl D_end_of.mg D_end_of.fn.kp D_end_of.bd pass0 hP hw hK ht XR.none (qa_cons (qv 1) (qa_cons (qv 0) (qa_cons (qv 2) qa_nil)))))))))), ?_⟩
  subst e
  have h9 := o.nine
  refine ⟨_, rfl, netK_ok net, fun _ => ?_, fun h => by rw [netD_ok o] at h; cases h⟩
  simp only [zVar, zC, zOp, zII, zIC, zEq, zNe, scalZ, zIs, zIsN, isNonD, zSS, zTest, zBool, zChain, zAnd, zOr, zNot, zAndV, zOrV, zNotV, zIfE, zNil, zCons, zTup, zLst, zLstP, zCB, z1, zLenD, z2I, zAbs, zDivmod, zInt, zList, zListP, zTuple, zSorted, zSet, zLenS, intsM, itemsM, zIsInst, isD, zBM, tyZ, zAppend, zExtend, zPop, zPopAt, zIndexS, zCount, zSum, zReverse, zSetI, zgSub, zNext, zSeq, zDrop, zRet, zRetN, zIfS, zgName, zgNil, zgCons, zgTup, zAsg, zFor, zForM, zComp, zCompP, zTupG, zAll, zSetC, zBlock, zCall, zTry, zRaise, zIsE, zstart, zEndsOf, ziTup, ziLst, ziStr, ziRng1, ziRng2, ziEnumK, ziZip, seqK, zoNone, zoSome, zSl, zSlT, zSlS, zSlL, zIx, zRangeT, zRangeL, zRangeP, zNeg, zTruth, truD, zCatT, zNoIf, zInI, zAllB, zGetR, zDIn, zMGet, lookD, nowK, keyD, zDNewK, zDNewT, zDisp1K, zDisp1T, zDPut, zLenK, zLenT, zRepT, zMulS, zCallL, List.getElem?_cons_zero, List.getElem?_cons_succ, List.map_cons, List.map_nil, List.nil_append, List.cons_append, List.length_cons, List.length_nil, List.replicate_succ, List.replicate_zero, List.set_cons_zero, List.set_cons_succ, Option.join_some, Nat.reduceAdd, Nat.reduceSub, Nat.sub_self, Nat.zero_add, if_true, if_false, Bool.false_eq_true, Bool.not_true, Bool.not_false, true_and, and_true, beq_self_eq_true, String.reduceBEq, zLoop, List.length_map, List.length_set, updM_same, updM_updM, List.append_nil, Int.zero_add, Int.toNat_natCast, rangeD_len, pairsD_len, numD_len, Nat.min_self, atI_zero, decide_true, decide_false, Bool.not_eq_true, bne_self_eq_false]
  refine ⟨net, n, z, rfl, o, hW, hl, ?_⟩
  simp only [zVar, zC, zOp, zII, zIC, zEq, zNe, scalZ, zIs, zIsN, isNonD, zSS, zTest, zBool, zChain, zAnd, zOr, zNot, zAndV, zOrV, zNotV, zIfE, zNil, zCons, zTup, zLst, zLstP, zCB, z1, zLenD, z2I, zAbs, zDivmod, zInt, zList, zListP, zTuple, zSorted, zSet, zLenS, intsM, itemsM, zIsInst, isD, zBM, tyZ, zAppend, zExtend, zPop, zPopAt, zIndexS, zCount, zSum, zReverse, zSetI, zgSub, zNext, zSeq, zDrop, zRet, zRetN, zIfS, zgName, zgNil, zgCons, zgTup, zAsg, zFor, zForM, zComp, zCompP, zTupG, zAll, zSetC, zBlock, zCall, zTry, zRaise, zIsE, zstart, zEndsOf, ziTup, ziLst, ziStr, ziRng1, ziRng2, ziEnumK, ziZip, seqK, zoNone, zoSome, zSl, zSlT, zSlS, zSlL, zIx, zRangeT, zRangeL, zRangeP, zNeg, zTruth, truD, zCatT, zNoIf, zInI, zAllB, zGetR, zDIn, zMGet, lookD, nowK, keyD, zDNewK, zDNewT, zDisp1K, zDisp1T, zDPut, zLenK, zLenT, zRepT, zMulS, zCallL, List.getElem?_cons_zero, List.getElem?_cons_succ, List.map_cons, List.map_nil, List.nil_append, List.cons_append, List.length_cons, List.length_nil, List.replicate_succ, List.replicate_zero, List.set_cons_zero, List.set_cons_succ, Option.join_some, Nat.reduceAdd, Nat.reduceSub, Nat.sub_self, Nat.zero_add, if_true, if_false, Bool.false_eq_true, Bool.not_true, Bool.not_false, true_and, and_true, beq_self_eq_true, String.reduceBEq, zLoop, List.length_map, List.length_set, updM_same, updM_updM, List.append_nil, Int.zero_add, Int.toNat_natCast, rangeD_len, pairsD_len, numD_len, Nat.min_self, atI_zero, decide_true, decide_false, Bool.not_eq_true, bne_self_eq_false, eN]
  refine ⟨by omega, by omega, Nat.lt_of_le_of_lt h9 (by decide), ?_⟩
  refine zmap_of (fun d => match d with | .int p => Dv.int (endI net p z.cps.toList) | d => d) (fun τ M => (∃ x, τ = [x, some (eN net), some (.str z)]) ∧ M = Γ.M0) ⟨⟨_, rfl⟩, rfl⟩ (fun d hd τ M ⟨⟨x, e⟩, eM⟩ R hR => ?_) (fun τ M ⟨⟨x, e⟩, eM⟩ => ?_)
  · subst e eM
    obtain ⟨i, hi⟩ := List.mem_iff_getElem?.mp hd
    obtain ⟨rfl, hlt⟩ := rangeD_at hi
    refine ⟨net, n, _, z, rfl, o, by omega, by omega, hW, hR _ _ ⟨⟨_, rfl⟩, rfl⟩⟩
  · subst e eM
    have e : (rangeD 0 net.length).map (fun d => match d with | .int p => Dv.int (endI net p z.cps.toList) | d => d) = (mapI net z).map Dv.int := by
      unfold rangeD mapI rangeI
      rw [List.map_map, List.map_map, List.map_map]
      refine List.map_congr_left fun p _ => ?_
      simp only [Function.comp, Int.zero_add]
    rw [e]
    exact .inl q
end
end My

set_option Elab.async false
set_option maxRecDepth 100000
set_option maxHeartbeats 4000000
namespace My
open PySem L2 PyProof.Rows
section
variable {P : Program} {w : World} {K : PySem.W.Frag} {mg : Str → Option Value} {base : Heap} {tb : Tbs}
theorem sc_comes_round : FnScope ["net", "word", "once", "met", "said"] ["net", "word"] (defScope s_comes_round) := ⟨rfl, rfl, rfl, by decide +kernel, rfl, by decide +kernel, by decide +kernel⟩
theorem mapI_len (net : List (List Int)) (z : Str) : (mapI net z).length = net.length := by simp [mapI, rangeI]
theorem mapI_ok {net : List (List Int)} {n : Nat} (o : NetOk net n) {z : Str} (hw : WordOf n z) : OnceOk (mapI net z) := fun v hv => by
  obtain ⟨p, hp, rfl⟩ := List.mem_map.mp hv
  obtain ⟨k, hk, rfl⟩ := List.mem_map.mp hp
  have := List.mem_range.mp hk
  rw [mapI_len]
  exact end_ok o _ (by omega) (by omega) hw
def rndD (i j : Nat) : Dv := .tup [.int (j : Nat), .int ((i : Nat) - (j : Nat))]
def zRound : ZSp := fun ds M Q _ => ∃ net n z, ds = [eN net, .str z] ∧ NetOk net n ∧ WordOf n z ∧ z.length ≤ 2000 ∧ ∀ i j, RndOk (saidI (mapI net z)) i j → Q (rndD i j) M
theorem once_atD {once : List Int} (o : OnceOk once) {p : Int} (h0 : 0 ≤ p) (h1 : p < (once.length : Nat)) : atI (once.map Dv.int) p = some (.int (onceI once p)) := by
  have := atI_nat (xs := once.map Dv.int) (j := p.toNat) (v := Dv.int (onceI once p)) (by rw [List.getElem?_map, (onceI_ok o h0 h1).2]; rfl)
  rwa [show ((p.toNat : Nat) : Int) = p by omega] at this
def onceD (once : List Int) : Dv → Dv | .int p => .int (onceI once p) | d => d
theorem said_next (once : List Int) (k : Nat) : ((saidI once k).map Dv.int).map (onceD once) = (saidI once (k + 1)).map Dv.int := by
  rw [saidI, List.map_map, List.map_map]
  refine List.map_congr_left fun p _ => rfl
theorem new_said {S : Nat → List Int} {i : Nat} (h : ∀ a b, a < b → b < i → S a ≠ S b) (hn : ¬ ∃ j, j < i ∧ S j = S i) : ∀ a b, a < b → b < i + 1 → S a ≠ S b := fun a b hab hb e => by
  rcases Nat.lt_or_ge b i with q | q
  · exact h a b hab q e
  · have : b = i := by omega
    subst this
    exact hn ⟨a, hab, e⟩
theorem ok_comes_round {f f1 f2 : Addr} {fd fd1 fd2 : FuncData} {c_comes_round p_comes_round : Addr} (D : Df K mg "comes_round" s_comes_round ["net", "word"] f fd) (C_comes_round : DfC base fd c_comes_round p_comes_round) (hp : p_comes_round ∈ tb) (hbm : ∃ bm ob, BMod base mainGlobals mg bm ob)
    (D_map_of : Df K mg "map_of" s_map_of ["net", "word"] f1 fd1) (G_map_of : FnOk P w K mg base (CX1 P w) 11 f1 fd1 ["net", "word"] (spZ P w K tb zMapOf))
    (D_all_places : Df K mg "all_places" s_all_places ["net"] f2 fd2) (G_all_places : FnOk P w K mg base CX0 1 f2 fd2 ["net"] (spZ P w K tb zPlaces)) (bl : Bl mg) :
    FnOk P w K mg base (CX1 P w) 12 f fd ["net", "word"] (spZ P w K tb zRound) := by
  refine zdef1 D sc_comes_round (fun ds M Q E ⟨net, n, z, e, _⟩ => by rw [e]; rfl) fun A outer s E Γ ds Q' E' hP hw hK ht hE hr ⟨net, n, z, e, o, hW, hl, q⟩ => ?_
  have htb_comes_round : p_comes_round ∈ Γ.tb := ht ▸ hp
  refine ⟨_, (qss_cons (qs_set (i := 2) sc_comes_round.nd rfl (Or.inr rfl) (qe_call G_map_of (hr.mono (by decide)) rfl D_map_of.mg D_map_of.fn.kp D_map_of.bd pass1 hP hw hK ht hE (qa_cons (qv 0) (qa_cons (qv 1) qa_nil))))
    (qss_cons (qs_set (i := 3) sc_comes_round.nd rfl (Or.inl rfl) qe_dnewT)
    (qss_cons (qs_set (i := 4) sc_comes_round.nd rfl (Or.inl rfl) (qe_call G_all_places (hr.mono (by decide)) rfl D_all_places.mg D_all_places.fn.kp D_all_places.bd pass0 hP hw hK ht XR.none (qa_cons (qv 0) qa_nil)))
    (qss_cons (PS.nox (qs_while PassesOwn.never (qt_cmpR (q_dnotin hr.units) (qv 4) (qv 3) (by rfl))
      (qss_cons (qs_dput hr.units (qv 3) (qv 4) (qe_callB q_lenT rfl bl.len_ PySem.boot_len (qa_cons (qv 3) qa_nil)))
    (qss_one (qs_set (i := 4) sc_comes_round.nd rfl (Or.inl rfl) (qe_tupleGen (k := 0) (N' := ["place", "once"]) (tn := 1) (idx := [2]) htb_comes_round (hr.mono (by decide)) rfl (show BlockOk ["net", "word", "once", "met", "said"] (defScope s_comes_round) _ ["place", "once"] 1 [2] from by decide +kernel) rfl rfl C_comes_round.code C_comes_round.hd hbm rfl bl.tuple_ (qi_tup (K := K) rfl (qv 4)) (fun _ _ _ _ _ _ _ hr => (qg_name (i := 0) (show List.Nodup [("place" : Str), ("once" : Str)] from by decide +kernel) rfl (Or.inl rfl))) (fun _ _ _ _ _ _ _ hr => qif_nil) (fun _ _ _ _ _ _ _ hr => (qe_ix (q_ix (K := K) rfl) (qv 1) (qv 0) (fun _ _ => rfl)))))))))
    (qss_one (qs_ret (qe_tup (qa_cons (qe_dget hr.units (qv 3) (qv 4) (fun _ _ => rfl)) (qa_cons (qe_op q_sub (qe_callB q_lenT rfl bl.len_ PySem.boot_len (qa_cons (qv 3) qa_nil)) (qe_dget hr.units (qv 3) (qv 4) (fun _ _ => rfl))) qa_nil))))))))), ?_⟩
  subst e
  have h9 := o.nine
  have ml := mapI_len net z
  have oo := mapI_ok o hW
  obtain ⟨once, ho⟩ : ∃ once, once = mapI net z := ⟨_, rfl⟩
  rw [← ho] at q ml oo
  have big : (2530 : Nat) < sizeLine := by decide
  simp only [zVar, zC, zOp, zII, zIC, zEq, zNe, scalZ, zIs, zIsN, isNonD, zSS, zTest, zBool, zChain, zAnd, zOr, zNot, zAndV, zOrV, zNotV, zIfE, zNil, zCons, zTup, zLst, zLstP, zCB, z1, zLenD, z2I, zAbs, zDivmod, zInt, zList, zListP, zTuple, zSorted, zSet, zLenS, intsM, itemsM, zIsInst, isD, zBM, tyZ, zAppend, zExtend, zPop, zPopAt, zIndexS, zCount, zSum, zReverse, zSetI, zgSub, zNext, zSeq, zDrop, zRet, zRetN, zIfS, zgName, zgNil, zgCons, zgTup, zAsg, zFor, zForM, zComp, zCompP, zTupG, zAll, zSetC, zBlock, zCall, zTry, zRaise, zIsE, zstart, zEndsOf, ziTup, ziLst, ziStr, ziRng1, ziRng2, ziEnumK, ziZip, seqK, zoNone, zoSome, zSl, zSlT, zSlS, zSlL, zIx, zRangeT, zRangeL, zRangeP, zNeg, zTruth, truD, zCatT, zNoIf, zInI, zAllB, zGetR, zDIn, zMGet, lookD, nowK, keyD, zDNewK, zDNewT, zDisp1K, zDisp1T, zDPut, zLenK, zLenT, zRepT, zMulS, zCallL, List.getElem?_cons_zero, List.getElem?_cons_succ, List.map_cons, List.map_nil, List.nil_append, List.cons_append, List.length_cons, List.length_nil, List.replicate_succ, List.replicate_zero, List.set_cons_zero, List.set_cons_succ, Option.join_some, Nat.reduceAdd, Nat.reduceSub, Nat.sub_self, Nat.zero_add, if_true, if_false, Bool.false_eq_true, Bool.not_true, Bool.not_false, true_and, and_true, beq_self_eq_true, String.reduceBEq, zLoop, List.length_map, List.length_set, updM_same, updM_updM, List.append_nil, Int.zero_add, Int.toNat_natCast, rangeD_len, pairsD_len, numD_len, Nat.min_self, atI_zero, decide_true, decide_false, Bool.not_eq_true, bne_self_eq_false]
  refine ⟨net, n, z, rfl, o, hW, hl, ?_⟩
  rw [← ho]
  simp only [zVar, zC, zOp, zII, zIC, zEq, zNe, scalZ, zIs, zIsN, isNonD, zSS, zTest, zBool, zChain, zAnd, zOr, zNot, zAndV, zOrV, zNotV, zIfE, zNil, zCons, zTup, zLst, zLstP, zCB, z1, zLenD, z2I, zAbs, zDivmod, zInt, zList, zListP, zTuple, zSorted, zSet, zLenS, intsM, itemsM, zIsInst, isD, zBM, tyZ, zAppend, zExtend, zPop, zPopAt, zIndexS, zCount, zSum, zReverse, zSetI, zgSub, zNext, zSeq, zDrop, zRet, zRetN, zIfS, zgName, zgNil, zgCons, zgTup, zAsg, zFor, zForM, zComp, zCompP, zTupG, zAll, zSetC, zBlock, zCall, zTry, zRaise, zIsE, zstart, zEndsOf, ziTup, ziLst, ziStr, ziRng1, ziRng2, ziEnumK, ziZip, seqK, zoNone, zoSome, zSl, zSlT, zSlS, zSlL, zIx, zRangeT, zRangeL, zRangeP, zNeg, zTruth, truD, zCatT, zNoIf, zInI, zAllB, zGetR, zDIn, zMGet, lookD, nowK, keyD, zDNewK, zDNewT, zDisp1K, zDisp1T, zDPut, zLenK, zLenT, zRepT, zMulS, zCallL, List.getElem?_cons_zero, List.getElem?_cons_succ, List.map_cons, List.map_nil, List.nil_append, List.cons_append, List.length_cons, List.length_nil, List.replicate_succ, List.replicate_zero, List.set_cons_zero, List.set_cons_succ, Option.join_some, Nat.reduceAdd, Nat.reduceSub, Nat.sub_self, Nat.zero_add, if_true, if_false, Bool.false_eq_true, Bool.not_true, Bool.not_false, true_and, and_true, beq_self_eq_true, String.reduceBEq, zLoop, List.length_map, List.length_set, updM_same, updM_updM, List.append_nil, Int.zero_add, Int.toNat_natCast, rangeD_len, pairsD_len, numD_len, Nat.min_self, atI_zero, decide_true, decide_false, Bool.not_eq_true, bne_self_eq_false]
  intro a ha
  refine ⟨net, n, rfl, o, ?_⟩
  rw [← ml]
  simp only [zVar, zC, zOp, zII, zIC, zEq, zNe, scalZ, zIs, zIsN, isNonD, zSS, zTest, zBool, zChain, zAnd, zOr, zNot, zAndV, zOrV, zNotV, zIfE, zNil, zCons, zTup, zLst, zLstP, zCB, z1, zLenD, z2I, zAbs, zDivmod, zInt, zList, zListP, zTuple, zSorted, zSet, zLenS, intsM, itemsM, zIsInst, isD, zBM, tyZ, zAppend, zExtend, zPop, zPopAt, zIndexS, zCount, zSum, zReverse, zSetI, zgSub, zNext, zSeq, zDrop, zRet, zRetN, zIfS, zgName, zgNil, zgCons, zgTup, zAsg, zFor, zForM, zComp, zCompP, zTupG, zAll, zSetC, zBlock, zCall, zTry, zRaise, zIsE, zstart, zEndsOf, ziTup, ziLst, ziStr, ziRng1, ziRng2, ziEnumK, ziZip, seqK, zoNone, zoSome, zSl, zSlT, zSlS, zSlL, zIx, zRangeT, zRangeL, zRangeP, zNeg, zTruth, truD, zCatT, zNoIf, zInI, zAllB, zGetR, zDIn, zMGet, lookD, nowK, keyD, zDNewK, zDNewT, zDisp1K, zDisp1T, zDPut, zLenK, zLenT, zRepT, zMulS, zCallL, List.getElem?_cons_zero, List.getElem?_cons_succ, List.map_cons, List.map_nil, List.nil_append, List.cons_append, List.length_cons, List.length_nil, List.replicate_succ, List.replicate_zero, List.set_cons_zero, List.set_cons_succ, Option.join_some, Nat.reduceAdd, Nat.reduceSub, Nat.sub_self, Nat.zero_add, if_true, if_false, Bool.false_eq_true, Bool.not_true, Bool.not_false, true_and, and_true, beq_self_eq_true, String.reduceBEq, zLoop, List.length_map, List.length_set, updM_same, updM_updM, List.append_nil, Int.zero_add, Int.toNat_natCast, rangeD_len, pairsD_len, numD_len, Nat.min_self, atI_zero, decide_true, decide_false, Bool.not_eq_true, bne_self_eq_false]
  refine ⟨fun m ρ M => ∃ i, m = 2530 - i ∧ ρ = [some (eN net), some (.str z), some (eI once), some (.ptr a), some (eI (saidI once i))] ∧ M a = some (.dt (keysI (saidI once) i) (valsJ i)) ∧ Keeps Γ.M0 M ∧ ∀ x y, x < y → y < i → saidI once x ≠ saidI once y, ⟨_, 0, rfl, rfl, updM_same, .upd ha .refl, fun x y _ h => by omega⟩, ?_⟩
  rintro m ρ M ⟨i, rfl, rfl, hMa, hk, hd⟩
  have hi := said_bound oo (by omega) hd
  simp only [zVar, zC, zOp, zII, zIC, zEq, zNe, scalZ, zIs, zIsN, isNonD, zSS, zTest, zBool, zChain, zAnd, zOr, zNot, zAndV, zOrV, zNotV, zIfE, zNil, zCons, zTup, zLst, zLstP, zCB, z1, zLenD, z2I, zAbs, zDivmod, zInt, zList, zListP, zTuple, zSorted, zSet, zLenS, intsM, itemsM, zIsInst, isD, zBM, tyZ, zAppend, zExtend, zPop, zPopAt, zIndexS, zCount, zSum, zReverse, zSetI, zgSub, zNext, zSeq, zDrop, zRet, zRetN, zIfS, zgName, zgNil, zgCons, zgTup, zAsg, zFor, zForM, zComp, zCompP, zTupG, zAll, zSetC, zBlock, zCall, zTry, zRaise, zIsE, zstart, zEndsOf, ziTup, ziLst, ziStr, ziRng1, ziRng2, ziEnumK, ziZip, seqK, zoNone, zoSome, zSl, zSlT, zSlS, zSlL, zIx, zRangeT, zRangeL, zRangeP, zNeg, zTruth, truD, zCatT, zNoIf, zInI, zAllB, zGetR, zDIn, zMGet, lookD, nowK, keyD, zDNewK, zDNewT, zDisp1K, zDisp1T, zDPut, zLenK, zLenT, zRepT, zMulS, zCallL, List.getElem?_cons_zero, List.getElem?_cons_succ, List.map_cons, List.map_nil, List.nil_append, List.cons_append, List.length_cons, List.length_nil, List.replicate_succ, List.replicate_zero, List.set_cons_zero, List.set_cons_succ, Option.join_some, Nat.reduceAdd, Nat.reduceSub, Nat.sub_self, Nat.zero_add, if_true, if_false, Bool.false_eq_true, Bool.not_true, Bool.not_false, true_and, and_true, beq_self_eq_true, String.reduceBEq, zLoop, List.length_map, List.length_set, updM_same, updM_updM, List.append_nil, Int.zero_add, Int.toNat_natCast, rangeD_len, pairsD_len, numD_len, Nat.min_self, atI_zero, decide_true, decide_false, Bool.not_eq_true, bne_self_eq_false, hMa, eI, keysD_ints, look_someG ((keysI_len (saidI once) i).trans (valsJ_len i).symm), keysI_len]
  refine ifB (fun h => ?_) (fun h => ?_)
  · have hn : ¬ ∃ j, j < i ∧ saidI once j = saidI once i := fun z => by
      have h2 := mem_keysI.mpr z
      simp only [Bool.not_eq_true', decide_eq_false_iff_not] at h
      exact h h2
    obtain ⟨p1, p2⟩ := put_new (κ := List Key) (k := (saidI once i).map Sum.inl) (d := Dv.int (i : Nat)) (ks := keysI (saidI once) i) (ds := valsJ i) (fun z => hn (mem_keysI.mp z))
    rw [p1, p2, ← keysI_succ, ← valsJ_succ]
    refine ⟨by omega, ?_⟩
    refine ⟨by rw [said_len]; omega, ?_⟩
    have hd2 := new_said hd hn
    have hi2 := said_bound oo (by omega) hd2
    refine zmap_of (onceD once) (fun τ M' => (∃ x, τ = [x, some (eI once)]) ∧ M' = updM M a (.dt (keysI (saidI once) (i + 1)) (valsJ (i + 1)))) ⟨⟨_, rfl⟩, rfl⟩ (fun d hd τ M' ⟨⟨x, e⟩, eM⟩ R hR => ?_) (fun τ M' ⟨⟨x, e⟩, eM⟩ => ?_)
    · subst e eM
      obtain ⟨p, hp, rfl⟩ := List.mem_map.mp hd
      obtain ⟨p0, p1⟩ := said_ok oo i p hp
      have := once_atD oo p0 p1
      simp only [zVar, zC, zOp, zII, zIC, zEq, zNe, scalZ, zIs, zIsN, isNonD, zSS, zTest, zBool, zChain, zAnd, zOr, zNot, zAndV, zOrV, zNotV, zIfE, zNil, zCons, zTup, zLst, zLstP, zCB, z1, zLenD, z2I, zAbs, zDivmod, zInt, zList, zListP, zTuple, zSorted, zSet, zLenS, intsM, itemsM, zIsInst, isD, zBM, tyZ, zAppend, zExtend, zPop, zPopAt, zIndexS, zCount, zSum, zReverse, zSetI, zgSub, zNext, zSeq, zDrop, zRet, zRetN, zIfS, zgName, zgNil, zgCons, zgTup, zAsg, zFor, zForM, zComp, zCompP, zTupG, zAll, zSetC, zBlock, zCall, zTry, zRaise, zIsE, zstart, zEndsOf, ziTup, ziLst, ziStr, ziRng1, ziRng2, ziEnumK, ziZip, seqK, zoNone, zoSome, zSl, zSlT, zSlS, zSlL, zIx, zRangeT, zRangeL, zRangeP, zNeg, zTruth, truD, zCatT, zNoIf, zInI, zAllB, zGetR, zDIn, zMGet, lookD, nowK, keyD, zDNewK, zDNewT, zDisp1K, zDisp1T, zDPut, zLenK, zLenT, zRepT, zMulS, zCallL, List.getElem?_cons_zero, List.getElem?_cons_succ, List.map_cons, List.map_nil, List.nil_append, List.cons_append, List.length_cons, List.length_nil, List.replicate_succ, List.replicate_zero, List.set_cons_zero, List.set_cons_succ, Option.join_some, Nat.reduceAdd, Nat.reduceSub, Nat.sub_self, Nat.zero_add, if_true, if_false, Bool.false_eq_true, Bool.not_true, Bool.not_false, true_and, and_true, beq_self_eq_true, String.reduceBEq, zLoop, List.length_map, List.length_set, updM_same, updM_updM, List.append_nil, Int.zero_add, Int.toNat_natCast, rangeD_len, pairsD_len, numD_len, Nat.min_self, atI_zero, decide_true, decide_false, Bool.not_eq_true, bne_self_eq_false, eI, this]
      exact hR _ _ ⟨⟨_, rfl⟩, rfl⟩
    · subst e eM
      rw [said_next]
      exact ⟨2530 - (i + 1), by omega, i + 1, rfl, rfl, updM_same, Keeps.upd ha hk, hd2⟩
  · have hex : ∃ j, j < i ∧ saidI once j = saidI once i := mem_keysI.mp (by simpa only [Bool.not_eq_false', decide_eq_true_eq] using h)
    obtain ⟨j, hj, e⟩ := hex
    have := look_keysI hd hj
    rw [e] at this
    simp only [zVar, zC, zOp, zII, zIC, zEq, zNe, scalZ, zIs, zIsN, isNonD, zSS, zTest, zBool, zChain, zAnd, zOr, zNot, zAndV, zOrV, zNotV, zIfE, zNil, zCons, zTup, zLst, zLstP, zCB, z1, zLenD, z2I, zAbs, zDivmod, zInt, zList, zListP, zTuple, zSorted, zSet, zLenS, intsM, itemsM, zIsInst, isD, zBM, tyZ, zAppend, zExtend, zPop, zPopAt, zIndexS, zCount, zSum, zReverse, zSetI, zgSub, zNext, zSeq, zDrop, zRet, zRetN, zIfS, zgName, zgNil, zgCons, zgTup, zAsg, zFor, zForM, zComp, zCompP, zTupG, zAll, zSetC, zBlock, zCall, zTry, zRaise, zIsE, zstart, zEndsOf, ziTup, ziLst, ziStr, ziRng1, ziRng2, ziEnumK, ziZip, seqK, zoNone, zoSome, zSl, zSlT, zSlS, zSlL, zIx, zRangeT, zRangeL, zRangeP, zNeg, zTruth, truD, zCatT, zNoIf, zInI, zAllB, zGetR, zDIn, zMGet, lookD, nowK, keyD, zDNewK, zDNewT, zDisp1K, zDisp1T, zDPut, zLenK, zLenT, zRepT, zMulS, zCallL, List.getElem?_cons_zero, List.getElem?_cons_succ, List.map_cons, List.map_nil, List.nil_append, List.cons_append, List.length_cons, List.length_nil, List.replicate_succ, List.replicate_zero, List.set_cons_zero, List.set_cons_succ, Option.join_some, Nat.reduceAdd, Nat.reduceSub, Nat.sub_self, Nat.zero_add, if_true, if_false, Bool.false_eq_true, Bool.not_true, Bool.not_false, true_and, and_true, beq_self_eq_true, String.reduceBEq, zLoop, List.length_map, List.length_set, updM_same, updM_updM, List.append_nil, Int.zero_add, Int.toNat_natCast, rangeD_len, pairsD_len, numD_len, Nat.min_self, atI_zero, decide_true, decide_false, Bool.not_eq_true, bne_self_eq_false, this]
    refine ⟨by decide, ?_⟩
    exact zfin_data hk (.tup fun d hd => by simp at hd; rcases hd with rfl | rfl <;> exact .int _) (q i j ⟨hj, e.symm, hd⟩)
end
end My

set_option Elab.async false
set_option maxRecDepth 100000
set_option maxHeartbeats 4000000
namespace My
open PySem L2 PyProof.Rows

section
variable {P : Program} {w : World} {K : PySem.W.Frag} {mg : Str → Option Value} {base : Heap} {tb : List Addr}
theorem sc__law_bag : FnScope ["_law_script", "_law_at", "_law_cell", "_law_mix", "_law_k"] ["_law_script", "_law_at"] (defScope s__law_bag) := ⟨rfl, rfl, rfl, by decide +kernel, rfl, by decide +kernel, by decide +kernel⟩
theorem sc__law_take : FnScope ["_law_bag_here", "_law_many", "_law_digit", "_law_number", "_law_room"] ["_law_bag_here", "_law_many"] (defScope s__law_take) := ⟨rfl, rfl, rfl, by decide +kernel, rfl, by decide +kernel, by decide +kernel⟩
theorem sc__law_order : FnScope ["_law_bag_here", "_law_many", "_law_rest", "_law_found", "_law_k"] ["_law_bag_here", "_law_many"] (defScope s__law_order) := ⟨rfl, rfl, rfl, by decide +kernel, rfl, by decide +kernel, by decide +kernel⟩
theorem sc__law_net : FnScope ["_law_bag_here", "_law_most", "_law_many", "_law_fans", "_law_kind", "_law_lap", "_law_order_here", "_law_rows", "_law_k", "_law_goals", "_law_fan"] ["_law_bag_here", "_law_most"] (defScope s__law_net) := ⟨rfl, rfl, rfl, by decide +kernel, rfl, by decide +kernel, by decide +kernel⟩
def spBag (K : PySem.W.Frag) : Sp := fun vs H Q _ => ∃ (a : Addr) (ns : List Int) (t : Int), vs = [.ref a, .int t] ∧ SqL K H a (ns.map V.int) ∧ ns.length ≤ 63 ∧ 0 ≤ t ∧ t ≤ 63 ∧ ∀ b H', H b = none → Keep H H' → BagAt H' b → Q (.ref b) H'
theorem ok_law_bag {f : Addr} {fd : FuncData} (D : Df K mg "_law_bag" s__law_bag ["_law_script", "_law_at"] f fd) (bl : Bl mg) : FnOk P w K mg base CX0 1 f fd ["_law_script", "_law_at"] (spBag K) := by
  refine D.fn.ok sc__law_bag (fun vs H Q E h => ?_) (fun cdv A outer s H vs Q E hr h => ?_)
  · obtain ⟨a, ns, t, rfl, _⟩ := h
    rfl
  · obtain ⟨a, ns, t, rfl, hS, h63, t0, t1, q⟩ := h
    have hl : (ns.map V.int).length = ns.length := List.length_map _
    refine Ho.run (Pre := fun σ H1 => H1 = H ∧ σ = [some (.ref a), some (.int t), none, none, none]) ⟨rfl, rfl⟩ ?_
    refine Ho.cons (fun σ H1 => H1 = H ∧ σ = [some (.ref a), some (.int t), some (.int 0), none, none]) ⟨_, (ps_set (i := 2) sc__law_bag.nd rfl (Or.inl rfl) pe_int), ?_⟩ ?_
    · rintro N σ H1 ⟨rfl, rfl⟩ k
      exact k _ _ ⟨rfl, rfl⟩
    refine Ho.cons (fun σ H1 => H1 = H ∧ ∃ c : Int, 0 ≤ c ∧ σ = [some (.ref a), some (.int t), some (.int c), none, none]) ⟨_, (ps_if (pt_cmpR op_lt (pv 1) (pe_callB (call_len_seqK (K := K) rfl) rfl bl.len_ PySem.boot_len (pa_cons (pv 0) pa_nil)) (nomark _))
      (pss_one (ps_set (i := 2) sc__law_bag.nd rfl (Or.inl rfl) (pe_callB call_abs rfl bl.abs_ bt_abs (pa_cons (pe_ix (ix_listK (K := K) rfl) (pv 0) (pv 1) (fun _ _ => rfl)) pa_nil))))
      pss_nil), ?_⟩ ?_
    · rintro N σ H1 ⟨rfl, rfl⟩ k
      refine ⟨_, rfl, _, rfl, a, _, rfl, .inl hS, _, _, rfl, rfl, _, rfl, ?_⟩
      refine ite2 (fun c => ?_) (fun c => ?_)
      · have c' : t < ((ns.map V.int).length : Nat) := of_decide_eq_true c
        rw [hl] at c'
        obtain ⟨v, hv, _⟩ := atI_ints (ns := ns) t0 c'
        refine ⟨_, rfl, _, rfl, a, _, _, _, rfl, rfl, hS, hv, v, rfl, k _ _ ⟨rfl, _, ?_, rfl⟩⟩
        split <;> omega
      · exact k _ _ ⟨rfl, 0, Int.le_refl _, rfl⟩
    refine Ho.cons (fun σ H1 => H1 = H ∧ ∃ c m : Int, 0 ≤ c ∧ 0 ≤ m ∧ σ = [some (.ref a), some (.int t), some (.int c), some (.int m), none]) ⟨_, (ps_set (i := 3) sc__law_bag.nd rfl (Or.inl rfl) (pe_op op_add (pe_op op_mul pe_int (pv 1)) pe_int)), ?_⟩ ?_
    · rintro N σ H1 ⟨rfl, c, hc, rfl⟩ k
      exact ⟨_, rfl, _, _, rfl, rfl, .inl ⟨by decide, by decide⟩, _, _, rfl, rfl, k _ _ ⟨rfl, c, _, hc, by omega, rfl⟩⟩
    refine Ho.cons (fun σ H1 => H1 = H ∧ ∃ c m : Int, ∃ v, 0 ≤ c ∧ 0 ≤ m ∧ σ = [some (.ref a), some (.int t), some (.int c), some (.int m), v]) ⟨_, (ps_for PassesOwn.never rfl (pi_range1 rfl bl.range_ (pa_cons (pe_callB (call_min2 rfl) rfl bl.min_ bt_min (pa_cons (pe_callB (call_len_seqK (K := K) rfl) rfl bl.len_ PySem.boot_len (pa_cons (pv 0) pa_nil)) (pa_cons pe_int pa_nil))) pa_nil)) (pg_name (i := 4) sc__law_bag.nd rfl (Or.inl rfl))
      (pss_one (ps_set (i := 3) sc__law_bag.nd rfl (Or.inl rfl) (pe_op op_mod (pe_op op_add (pe_op op_add (pe_op op_mul (pv 3) pe_int) (pe_op op_mod (pe_ix (ix_listK (K := K) rfl) (pv 0) (pv 4) (fun _ _ => rfl)) pe_int)) (pv 4)) pe_int)))), ?_⟩ ?_
    · rintro N σ H1 ⟨rfl, c, m, hc, hm, rfl⟩ k
      refine ⟨_, rfl, a, _, rfl, .inl hS, _, _, rfl, _, rfl, by split <;> omega, by split <;> omega, ?_⟩
      refine for_of (fun i σ H2 => H2 = H1 ∧ ∃ c m : Int, ∃ v, 0 ≤ c ∧ 0 ≤ m ∧ σ = [some (.ref a), some (.int t), some (.int c), some (.int m), v]) ⟨rfl, c, m, none, hc, hm, rfl⟩ (fun _ _ _ _ _ => runs_range) ?_ (fun σ H2 h => k _ _ h)
      rintro i x σ H2 hx ⟨rfl, c, m, v, hc, hm, rfl⟩
      have hi : i < (List.range (if (60 : Int) < ((ns.map V.int).length : Nat) then (60 : Int) else ((ns.map V.int).length : Nat)).toNat).length := by
        have := (List.getElem?_eq_some_iff.mp hx).1
        simpa using this
      rw [List.length_range] at hi
      have hi2 : i < ns.length := by
        rw [hl] at hi
        split at hi <;> omega
      obtain rfl : x = .int (0 + (i : Nat)) := by
        rw [List.getElem?_map, List.getElem?_range hi] at hx
        exact (Option.some.inj hx).symm
      obtain ⟨u, hu, _⟩ := atI_ints (ns := ns) (i := 0 + (i : Nat)) (by omega) (by omega)
      refine ⟨_, rfl, _, _, rfl, rfl, .inr ⟨by decide, by decide⟩, _, rfl, _, rfl, a, _, _, _, rfl, rfl, hS, hu, _, _, rfl, rfl, (by show (0 : Int) < 2147483647; decide), _, _, rfl, rfl, _, rfl, _, _, rfl, rfl, _, _, rfl, rfl, (by show (0 : Int) < 2147483629; decide), ?_⟩
      exact ⟨rfl, c, _, _, hc, Int.emod_nonneg _ (by decide), rfl⟩
    refine Ho.cons (fun σ H1 => H1 = H ∧ ∃ c m : Int, ∃ v, 0 ≤ c ∧ 0 ≤ m ∧ σ = [some (.ref a), some (.int t), some (.int c), some (.int m), v]) ⟨_, (ps_if (pt_cmpR op_lt (pv 2) (pe_op op_pow pe_int pe_int) (nomark _))
      (pss_one (ps_set (i := 2) sc__law_bag.nd rfl (Or.inl rfl) pe_int))
      pss_nil), ?_⟩ ?_
    · rintro N σ H1 ⟨rfl, c, m, v, hc, hm, rfl⟩ k
      refine ⟨_, rfl, _, _, rfl, rfl, ⟨by decide, by decide, by decide⟩, _, _, rfl, rfl, _, rfl, ?_⟩
      refine ite2 (fun _ => ?_) (fun _ => ?_)
      · exact k _ _ ⟨rfl, 0, m, v, Int.le_refl _, hm, rfl⟩
      · exact k _ _ ⟨rfl, c, m, v, hc, hm, rfl⟩
    refine Ho.last ⟨_, (ps_ret (pe_lst (pa_cons (pv 2) (pa_cons (pv 3) pa_nil)))), ?_⟩
    rintro σ H1 ⟨rfl, c, m, v, hc, hm, rfl⟩
    refine ⟨_, rfl, _, rfl, (by show 2 ≤ sizeLine; decide), fun b hb => ?_⟩
    exact q b _ hb (.new hb _) ⟨c, m, upd_same, hc, hm⟩
end
end My

set_option Elab.async false
set_option maxRecDepth 100000
set_option maxHeartbeats 4000000
namespace My
open PySem L2 PyProof.Rows
section
variable {P : Program} {w : World} {K : PySem.W.Frag} {mg : Str → Option Value} {base : Heap} {tb : List Addr}
def spTake : Sp := fun vs H Q _ => ∃ (b : Addr) (n : Int), vs = [.ref b, .int n] ∧ BagAt H b ∧ 1 ≤ n ∧ n < 1073741824 ∧ ∀ (d : Int) (H' : Hp), 0 ≤ d → d < n → KeepBut b H H' → BagAt H' b → Q (.int d) H'
theorem ok_law_take {f : Addr} {fd : FuncData} (D : Df K mg "_law_take" s__law_take ["_law_bag_here", "_law_many"] f fd) : FnOk P w K mg base CX0 1 f fd ["_law_bag_here", "_law_many"] spTake := by
  refine D.fn.ok sc__law_take (fun vs H Q E h => ?_) (fun cdv A outer s H vs Q E hr h => ?_)
  · obtain ⟨b, n, rfl, _⟩ := h
    rfl
  · obtain ⟨b, n, rfl, ⟨c, m, hb, hc, hm⟩, n1, n2, q⟩ := h
    refine Ho.run (Pre := fun σ H1 => H1 = H ∧ σ = [some (.ref b), some (.int n), none, none, none]) ⟨rfl, rfl⟩ ?_
    refine Ho.cons (fun σ H1 => H1 = H ∧ σ = [some (.ref b), some (.int n), none, none, none]) ⟨_, (ps_if (pt_cmpR op_gt (pe_ix (ix_listK (K := K) rfl) (pv 0) pe_int (fun _ _ => rfl)) pe_int (nomark _))
      (pss_cons (ps_set (i := 2) sc__law_take.nd rfl (Or.inl rfl) (pe_op op_mod (pe_ix (ix_listK (K := K) rfl) (pv 0) pe_int (fun _ _ => rfl)) (pv 1)))
    (pss_cons (ps_asg (pe_op op_fdiv (pe_ix (ix_listK (K := K) rfl) (pv 0) pe_int (fun _ _ => rfl)) (pv 1)) (pg_sub (pv 0) pe_int set_list))
    (pss_one (ps_ret (pv 2)))))
      pss_nil), ?_⟩ ?_
    · rintro N σ H1 ⟨rfl, rfl⟩ k
      refine ⟨_, rfl, b, _, _, _, rfl, rfl, SqL.of hb, atI_nat (j := 0) rfl, _, _, rfl, rfl, _, rfl, ?_⟩
      refine ite2 (fun c1 => ?_) (fun _ => k _ _ ⟨rfl, rfl⟩)
      refine ⟨_, rfl, b, _, _, _, rfl, rfl, SqL.of hb, atI_nat (j := 0) rfl, _, rfl, _, _, rfl, rfl, (by show (0 : Int) < n; omega), ?_⟩
      refine ⟨_, rfl, b, _, _, _, rfl, rfl, SqL.of hb, atI_nat (j := 0) rfl, _, rfl, _, _, rfl, rfl, ⟨by omega, n2⟩, _, rfl, b, _, _, 0, rfl, rfl, hb, rfl, ?_⟩
      exact ⟨_, rfl, q _ _ (Int.emod_nonneg _ (by omega)) (Int.emod_lt_of_pos _ (by omega)) .upd ⟨c / n, m, upd_same, Int.ediv_nonneg hc (by omega), hm⟩⟩
    refine Ho.cons (fun σ H1 => H1 = H ∧ σ = [some (.ref b), some (.int n), none, some (.int 0), none]) ⟨_, (ps_set (i := 3) sc__law_take.nd rfl (Or.inl rfl) pe_int), ?_⟩ ?_
    · rintro N σ H1 ⟨rfl, rfl⟩ k
      exact k _ _ ⟨rfl, rfl⟩
    refine Ho.cons (fun σ H1 => H1 = H ∧ σ = [some (.ref b), some (.int n), none, some (.int 0), some (.int 1)]) ⟨_, (ps_set (i := 4) sc__law_take.nd rfl (Or.inl rfl) pe_int), ?_⟩ ?_
    · rintro N σ H1 ⟨rfl, rfl⟩ k
      exact k _ _ ⟨rfl, rfl⟩
    refine Ho.cons (fun σ H1 => KeepBut b H H1 ∧ BagAt H1 b ∧ ∃ num room : Int, 0 ≤ num ∧ σ = [some (.ref b), some (.int n), none, some (.int num), some (.int room)]) ⟨_, (ps_while PassesOwn.never (pt_cmpR op_lt (pv 4) (pv 1) (nomark _))
      (pss_cons (ps_asg (pe_op op_mod (pe_op op_add (pe_op op_mul (pe_ix (ix_listK (K := K) rfl) (pv 0) pe_int (fun _ _ => rfl)) pe_int) pe_int) pe_int) (pg_sub (pv 0) pe_int set_list))
    (pss_cons (ps_set (i := 3) sc__law_take.nd rfl (Or.inl rfl) (pe_op op_add (pe_op op_mul (pv 3) pe_int) (pe_op op_mod (pe_op op_mul (pe_op op_fdiv (pe_ix (ix_listK (K := K) rfl) (pv 0) pe_int (fun _ _ => rfl)) pe_int) pe_int) pe_int)))
    (pss_one (ps_set (i := 4) sc__law_take.nd rfl (Or.inl rfl) (pe_op op_mul (pv 4) pe_int)))))), ?_⟩ ?_
    · rintro N σ H1 ⟨rfl, rfl⟩ k
      refine while_by (fun σ H2 => KeepBut b H1 H2 ∧ BagAt H2 b ∧ ∃ num room : Int, 0 ≤ num ∧ 1 ≤ room ∧ σ = [some (.ref b), some (.int n), none, some (.int num), some (.int room)])
        (fun (σ : L2.St) _ => match σ[4]? with | some (some (V.int r)) => (n - r).toNat | _ => 0) ⟨.refl _ _, ⟨c, m, hb, hc, hm⟩, 0, 1, Int.le_refl _, Int.le_refl _, rfl⟩ ?_ ?_
      · rintro σ H2 ⟨k2, ⟨c2, m2, hb2, hc2, hm2⟩, num, room, h1, h2, rfl⟩
        refine ⟨_, rfl, _, rfl, _, _, rfl, rfl, _, rfl, ?_⟩
        refine ite2 (fun c1 => ?_) (fun _ => k _ _ ⟨k2, ⟨c2, m2, hb2, hc2, hm2⟩, num, room, h1, rfl⟩)
        have c1' : room < n := of_decide_eq_true c1
        refine ⟨_, rfl, b, _, _, _, rfl, rfl, SqL.of hb2, atI_nat (j := 1) rfl, _, _, rfl, rfl, .inr ⟨by decide, by decide⟩, _, _, rfl, rfl, _, _, rfl, rfl, (by show (0 : Int) < 2147483647; decide), _, rfl, b, _, _, 1, rfl, rfl, hb2, rfl, ?_⟩
        have m3 : 0 ≤ (m2 * 48271 + 7919) % 2147483647 := Int.emod_nonneg _ (by decide)
        refine ⟨_, rfl, _, _, rfl, rfl, .inr ⟨by decide, by decide⟩, _, rfl, b, _, _, _, rfl, rfl, SqL.of upd_same, atI_nat (j := 1) rfl, _, _, rfl, rfl, ⟨by decide, by decide⟩, _, _, rfl, rfl, .inr ⟨by decide, by decide⟩, _, _, rfl, rfl, (by show (0 : Int) < 1073741789; decide), _, _, rfl, rfl, ?_⟩
        have n3 : 0 ≤ (m2 * 48271 + 7919) % 2147483647 / 8 * 69621 % 1073741789 := Int.emod_nonneg _ (by decide)
        refine ⟨_, rfl, _, _, rfl, rfl, .inr ⟨by decide, by decide⟩, ?_⟩
        refine ⟨⟨k2.trans .upd, ⟨c2, _, upd_same, hc2, m3⟩, _, _, ?_, ?_, rfl⟩, ?_⟩
        · omega
        · omega
        · show (n - room * 1073741789).toNat < (n - room).toNat
          omega
      · rintro σ H2 Q1 Q2 hQ ⟨v, e, v', e', i, j, r1, r2, kk, r3, z⟩
        exact ⟨v, e, v', e', i, j, r1, r2, kk, r3, hQ _ _ z⟩
    refine Ho.last ⟨_, (ps_ret (pe_op op_mod (pv 3) (pv 1))), ?_⟩
    rintro σ H1 ⟨k1, hB, num, room, h1, rfl⟩
    exact ⟨_, rfl, _, rfl, _, _, rfl, rfl, (by show (0 : Int) < n; omega), q _ _ (Int.emod_nonneg _ (by omega)) (Int.emod_lt_of_pos _ (by omega)) k1 hB⟩
end
end My

set_option Elab.async false
set_option maxRecDepth 100000
set_option maxHeartbeats 4000000
namespace My
open PySem L2 PyProof.Rows
section
variable {P : Program} {w : World} {K : PySem.W.Frag} {mg : Str → Option Value} {base : Heap} {tb : List Addr}
theorem erase_map {α β : Type} (f : α → β) : ∀ (l : List α) (i : Nat), (l.map f).eraseIdx i = (l.eraseIdx i).map f
  | [], _ => rfl
  | _ :: _, 0 => rfl
  | a :: l, i + 1 => by
    show f a :: (l.map f).eraseIdx i = f a :: (l.eraseIdx i).map f
    rw [erase_map f l i]
theorem erase_perm {α : Type} : ∀ (l : List α) (i : Nat) (h : i < l.length), (l[i] :: l.eraseIdx i).Perm l
  | a :: l, 0, _ => .refl _
  | a :: l, i + 1, h => by
    have h' : i < l.length := by simpa using h
    show (l[i] :: a :: l.eraseIdx i).Perm (a :: l)
    exact (List.Perm.swap a l[i] _).trans ((erase_perm l i h').cons a)

structure OrderOf (n : Nat) (os : List Int) : Prop where
  perm : os.Perm ((List.range n).map fun i : Nat => (i : Int))
theorem OrderOf.len {n : Nat} {os : List Int} (h : OrderOf n os) : os.length = n := by
  have := h.perm.length_eq
  simpa using this
theorem OrderOf.mem {n : Nat} {os : List Int} (h : OrderOf n os) {x : Int} (hx : x ∈ os) : 0 ≤ x ∧ x < n := by
  have := h.perm.mem_iff.mp hx
  obtain ⟨i, hi, rfl⟩ := List.mem_map.mp this
  have := List.mem_range.mp hi
  omega
theorem OrderOf.nodup {n : Nat} {os : List Int} (h : OrderOf n os) : os.Nodup := by
  refine h.perm.nodup_iff.mpr ?_
  exact List.pairwise_map.mpr (List.nodup_range.imp fun h e => h (by omega))
theorem OrderOf.all {n : Nat} {os : List Int} (h : OrderOf n os) {i : Nat} (hi : i < n) : (i : Int) ∈ os := h.perm.mem_iff.mpr (List.mem_map.mpr ⟨i, List.mem_range.mpr hi, rfl⟩)
def spOrder : Sp := fun vs H Q _ => ∃ (b : Addr) (n : Nat), vs = [.ref b, .int (n : Nat)] ∧ BagAt H b ∧ n ≤ 100 ∧ ∀ (o : Addr) (os : List Int) (H' : Hp), H o = none → OrderOf n os → KeepBut b H H' → BagAt H' b → H' o = some (.lst (os.map V.int)) → Q (.ref o) H'
theorem ok_law_order {f f1 : Addr} {fd fd1 : FuncData} (D : Df K mg "_law_order" s__law_order ["_law_bag_here", "_law_many"] f fd) (D__law_take : Df K mg "_law_take" s__law_take ["_law_bag_here", "_law_many"] f1 fd1) (bl : Bl mg) : FnOk P w K mg base CX0 2 f fd ["_law_bag_here", "_law_many"] spOrder := by
  have G__law_take : FnOk P w K mg base CX0 1 f1 fd1 ["_law_bag_here", "_law_many"] spTake := ok_law_take D__law_take
  refine D.fn.ok sc__law_order (fun vs H Q E h => ?_) (fun cdv A outer s H vs Q E hr h => ?_)
  · obtain ⟨b, n, rfl, _⟩ := h
    rfl
  · obtain ⟨b, n, rfl, hB, n1, q⟩ := h
    have ⟨cb, mb, hb0, _, _⟩ := hB
    refine ⟨_, (pss_cons (ps_set (i := 2) sc__law_order.nd rfl (Or.inl rfl) (pe_listrange rfl rfl bl.list_ rfl bl.range_ (pv 1)))
    (pss_cons (ps_set (i := 3) sc__law_order.nd rfl (Or.inl rfl) (pe_lst pa_nil))
    (pss_cons (ps_for PassesOwn.never rfl (pi_range1 rfl bl.range_ (pa_cons (pv 1) pa_nil)) (pg_name (i := 4) sc__law_order.nd rfl (Or.inl rfl))
      (pss_one (ps_expr (pe_bmK (K := K) rfl PySem.F.plainAttrs_list PySem.F.slot_list_append PySem.F.type_list_append mt_append (pv 3) (pa_cons (pe_bmK (K := K) rfl PySem.F.plainAttrs_list PySem.F.slot_list_pop PySem.F.type_list_pop mt_popAt (pv 2) (pa_cons (pe_call G__law_take (hr.mono (by decide)) rfl D__law_take.mg D__law_take.fn.kp D__law_take.bd .nil pass0 (pa_cons (pv 0) (pa_cons (pe_callB (call_len_seqK (K := K) rfl) rfl bl.len_ PySem.boot_len (pa_cons (pv 2) pa_nil)) pa_nil))) pa_nil)) pa_nil)))))
    (pss_one (ps_ret (pv 3)))))), ?_⟩
    refine ⟨_, rfl, _, rfl, by omega, by omega, fun r hr' => ?_⟩
    have hbr : b ≠ r := ne_of_none hb0 hr'
    refine ⟨by decide, fun o ho => ?_⟩
    have hro : r ≠ o := ne_of_none (H := upd H r (.lst _)) upd_same ho
    have hbo : b ≠ o := ne_of_none (H := upd H r (.lst _)) (by rw [upd_ne hbr]; exact hb0) ho
    have ho' : H o = none := by rw [upd_ne (Ne.symm hro)] at ho; exact ho
    refine ⟨_, rfl, _, rfl, by omega, by omega, ?_⟩
    refine for_of (fun i σ H1 => KeepBut b H H1 ∧ BagAt H1 b ∧ (∃ v, σ = [some (.ref b), some (.int (n : Nat)), some (.ref r), some (.ref o), v]) ∧ ∃ rest got : List Int, H1 r = some (.lst (rest.map V.int)) ∧ H1 o = some (.lst (got.map V.int)) ∧ got.length = i ∧ (got ++ rest).Perm ((List.range n).map fun i : Nat => (i : Int))) ?_ (fun _ _ _ _ _ => runs_range) ?_ ?_
    · refine ⟨((Keep.new hr' _).trans (Keep.new ho _)).but b, ?_, ⟨none, rfl⟩, (List.range n).map fun i : Nat => (i : Int), [], ?_, upd_same, rfl, .refl _⟩
      · exact hB.keep ((Keep.new hr' _).trans (Keep.new ho _))
      · rw [upd_ne hro, upd_same, List.map_map]
        rfl
    · rintro i x σ H1 hx ⟨k1, hB1, ⟨v, rfl⟩, rest, got, hr1, ho1, hg, pm⟩
      have hi : i < n := by
        have := (List.getElem?_eq_some_iff.mp hx).1
        simpa using this
      have hlen : got.length + rest.length = n := by
        have := pm.length_eq
        simpa using this
      have hl0 : (rest.map V.int).length = rest.length := List.length_map _
      refine ⟨_, rfl, .inl ⟨rfl, _, SqL.of ho1⟩, _, rfl, .inl ⟨rfl, _, SqL.of hr1⟩, _, rfl, _, rfl, r, _, rfl, .inl (SqL.of hr1), b, _, rfl, hB1, by rw [hl0]; omega, by rw [hl0]; omega, fun d H2 d0 d1 k2 hB2 => ?_⟩
      rw [hl0] at d1
      have hr2 := k2.lst (Ne.symm hbr) hr1
      have ho2 := k2.lst (Ne.symm hbo) ho1
      have hd : d.toNat < rest.length := by omega
      have hseq : seqIndex? d (rest.map V.int).length = some d.toNat := by
        obtain ⟨h1, _⟩ := ixN_seq (n := (rest.map V.int).length) (i := d) (j := d.toNat) (by unfold ixN; rw [if_pos d0, if_pos (by rw [hl0]; omega)])
        exact h1
      refine ⟨r, _, d, d.toNat, .int rest[d.toNat], rfl, rfl, hr2, by omega, by omega, hseq, by rw [List.getElem?_map, List.getElem?_eq_getElem hd]; rfl, ?_⟩
      refine ⟨o, got.map V.int, _, rfl, rfl, by rw [upd_ne (Ne.symm hro)]; exact ho2, by rw [List.length_map]; exact Nat.lt_of_le_of_lt (show got.length ≤ 1000 by omega) (by decide), ?_⟩
      refine ⟨?_, ?_, ⟨_, rfl⟩, rest.eraseIdx d.toNat, got ++ [rest[d.toNat]], ?_, ?_, by simp [hg], ?_⟩
      · refine fun b1 o1 n1 h1 => ?_
        have z := (k1.trans k2) b1 o1 n1 h1
        have e1 : b1 ≠ r := ne_of_none h1 hr'
        have e2 : b1 ≠ o := ne_of_none h1 ho'
        rw [upd_ne e2, upd_ne e1]
        exact z
      · obtain ⟨c3, m3, e3, z3⟩ := hB2
        exact ⟨c3, m3, by rw [upd_ne hbo, upd_ne hbr]; exact e3, z3⟩
      · rw [upd_ne hro, upd_same, erase_map]
      · rw [upd_same, List.map_append]
        rfl
      · refine List.Perm.trans ?_ pm
        rw [List.append_assoc]
        refine List.Perm.append_left got ?_
        exact erase_perm rest d.toNat hd
    · rintro σ H1 ⟨k1, hB1, ⟨v, rfl⟩, rest, got, hr1, ho1, hg, pm⟩
      have hlen : got.length + rest.length = n := by
        have := pm.length_eq
        simpa using this
      have hg' : got.length = n := by simpa using hg
      have hr0 : rest = [] := List.eq_nil_of_length_eq_zero (by omega)
      rw [hr0, List.append_nil] at pm
      exact ⟨_, rfl, q o got H1 ho' ⟨pm⟩ k1 hB1 ho1⟩
end
end My

set_option Elab.async false
set_option maxRecDepth 100000
set_option maxHeartbeats 4000000
namespace My
open PySem L2 PyProof.Rows
section

structure NI (H : Hp) (b o rl : Addr) (n : Nat) (os : List Int) (H1 : Hp) (rps : List Addr) (rows : List (List Int)) : Prop where
  kp : KeepBut b H H1
  bag : BagAt H1 b
  ord : H1 o = some (.lst (os.map V.int))
  oo : OrderOf n os
  ob : o ≠ b
  on : H o = none
  rb : rl ≠ b
  ro : rl ≠ o
  rn : H rl = none
  top : H1 rl = some (.lst (rps.map V.ref))
  nd : rps.Nodup
  fr : ∀ p ∈ rps, H p = none ∧ p ≠ b ∧ p ≠ o ∧ p ≠ rl
  row : ∀ (i : Nat) (p : Addr) (r : List Int), rps[i]? = some p → rows[i]? = some r → H1 p = some (.lst (r.map V.int))
  l1 : rps.length = n
  l2 : rows.length = n
  rng : ∀ r ∈ rows, ∀ g ∈ r, 0 ≤ g ∧ g < (n : Int)
variable {H H1 H2 : Hp} {b o rl : Addr} {n : Nat} {os : List Int} {rps : List Addr} {rows : List (List Int)}
theorem NI.rowAt (h : NI H b o rl n os H1 rps rows) {p : Addr} (hp : p ∈ rps) : ∃ r : List Int, H1 p = some (.lst (r.map V.int)) := by
  obtain ⟨i, hi, rfl⟩ := List.getElem_of_mem hp
  have hi2 : i < rows.length := by rw [h.l2, ← h.l1]; exact hi
  exact ⟨_, h.row i _ _ (List.getElem?_eq_getElem hi) (List.getElem?_eq_getElem hi2)⟩
theorem NI.take (h : NI H b o rl n os H1 rps rows) (k : KeepBut b H1 H2) (hB : BagAt H2 b) : NI H b o rl n os H2 rps rows :=
  { h with kp := h.kp.trans k, bag := hB, ord := k.lst h.ob h.ord, top := k.lst h.rb h.top, row := fun i p r e1 e2 => k.lst (h.fr p (List.mem_of_getElem? e1)).2.1 (h.row i p r e1 e2) }
theorem NI.fresh (h : NI H b o rl n os H1 rps rows) {d : Addr} (hd : H1 d = none) : H d = none ∧ d ≠ b ∧ d ≠ o ∧ d ≠ rl ∧ d ∉ rps := by
  obtain ⟨c, m, hb, _⟩ := h.bag
  have e1 : d ≠ b := (ne_of_none hb hd).symm
  refine ⟨?_, e1, (ne_of_none h.ord hd).symm, (ne_of_none h.top hd).symm, fun hp => ?_⟩
  · cases q : H d with
    | none => rfl
    | some u => rcases h.kp d u e1 q with z | ⟨_, _, _, z, _⟩ <;> (rw [hd] at z; cases z)
  · obtain ⟨r, e⟩ := h.rowAt hp
    rw [hd] at e; cases e
theorem NI.other (h : NI H b o rl n os H1 rps rows) {d : Addr} (hd : H d = none ∧ d ≠ b ∧ d ≠ o ∧ d ≠ rl ∧ d ∉ rps) (u : HO) : NI H b o rl n os (upd H1 d u) rps rows := by
  obtain ⟨d0, d1, d2, d3, d4⟩ := hd
  refine { h with kp := fun b1 o1 n1 e => ?_, bag := ?_, ord := by rw [upd_ne (Ne.symm d2)]; exact h.ord, top := by rw [upd_ne (Ne.symm d3)]; exact h.top, row := fun i p r e1 e2 => ?_ }
  · rw [upd_ne (ne_of_none e d0)]
    exact h.kp b1 o1 n1 e
  · obtain ⟨c, m, e, r⟩ := h.bag
    exact ⟨c, m, by rw [upd_ne (Ne.symm d1)]; exact e, r⟩
  · have np : p ≠ d := fun z => d4 (by rw [← z]; exact List.mem_of_getElem? e1)
    rw [upd_ne np]
    exact h.row i p r e1 e2
theorem NI.new (h : NI H b o rl n os H1 rps rows) {d : Addr} (hd : H1 d = none) (u : HO) : NI H b o rl n os (upd H1 d u) rps rows := h.other (h.fresh hd) u
theorem nodup_at {α : Type} {l : List α} (h : l.Nodup) {i j : Nat} {x : α} (a : l[i]? = some x) (b : l[j]? = some x) : i = j := by
  obtain ⟨h1, e1⟩ := List.getElem?_eq_some_iff.mp a
  obtain ⟨h2, e2⟩ := List.getElem?_eq_some_iff.mp b
  exact (List.getElem_inj h).mp (e1.trans e2.symm)
theorem NI.put (h : NI H b o rl n os H1 rps rows) {i : Nat} {p : Addr} {r' : List Int} (hi : rps[i]? = some p) (hr : ∀ g ∈ r', 0 ≤ g ∧ g < (n : Int)) : NI H b o rl n os (upd H1 p (.lst (r'.map V.int))) rps (rows.set i r') := by
  obtain ⟨p0, p1, p2, p3⟩ := h.fr p (List.mem_of_getElem? hi)
  refine { h with kp := fun b1 o1 n1 e => ?_, bag := ?_, ord := by rw [upd_ne (Ne.symm p2)]; exact h.ord, top := by rw [upd_ne (Ne.symm p3)]; exact h.top, row := fun j q r e1 e2 => ?_, l2 := by rw [List.length_set]; exact h.l2, rng := fun r hr' => ?_ }
  · rw [upd_ne (ne_of_none e p0)]
    exact h.kp b1 o1 n1 e
  · obtain ⟨c, m, e, r⟩ := h.bag
    exact ⟨c, m, by rw [upd_ne (Ne.symm p1)]; exact e, r⟩
  · by_cases hij : j = i
    · subst hij
      rw [hi] at e1; cases e1
      have hl : j < rows.length := by rw [h.l2, ← h.l1]; exact (List.getElem?_eq_some_iff.mp hi).1
      rw [List.getElem?_set_self hl] at e2
      cases e2
      exact upd_same
    · rw [List.getElem?_set_ne (Ne.symm hij)] at e2
      have : q ≠ p := fun z => hij (nodup_at h.nd e1 (by rw [z]; exact hi))
      rw [upd_ne this]
      exact h.row j q r e1 e2
  · rcases List.mem_or_eq_of_mem_set hr' with z | z
    · exact h.rng r z
    · rw [z]; exact hr
theorem NI.swap (h : NI H b o rl n os H1 rps rows) {i : Nat} {q : Addr} {r' : List Int} (hi : i < n) (hq : H q = none ∧ q ≠ b ∧ q ≠ o ∧ q ≠ rl ∧ q ∉ rps) (hq1 : H1 q = some (.lst (r'.map V.int))) (hr : ∀ g ∈ r', 0 ≤ g ∧ g < (n : Int)) :
    NI H b o rl n os (upd H1 rl (.lst ((rps.map V.ref).set i (.ref q)))) (rps.set i q) (rows.set i r') := by
  obtain ⟨q0, q1, q2, q3, q4⟩ := hq
  have nodup : ∀ (l : List Addr) (i : Nat), l.Nodup → q ∉ l → (l.set i q).Nodup := by
    intro l
    induction l with
    | nil => intro i h1 h2; exact h1
    | cons a l ih =>
      intro i h1 h2
      obtain ⟨a1, a2⟩ := List.nodup_cons.mp h1
      have n1 : q ≠ a := fun z => h2 (z ▸ List.mem_cons_self)
      have n2 : q ∉ l := fun z => h2 (List.mem_cons_of_mem _ z)
      cases i with
      | zero => exact List.nodup_cons.mpr ⟨n2, a2⟩
      | succ i =>
        refine List.nodup_cons.mpr ⟨fun z => ?_, ih i a2 n2⟩
        rcases List.mem_or_eq_of_mem_set z with z | z
        · exact a1 z
        · exact n1 z.symm
  refine { h with kp := fun b1 o1 n1 e => ?_, bag := ?_, ord := by rw [upd_ne (Ne.symm h.ro)]; exact h.ord, top := ?_, nd := nodup rps i h.nd q4, fr := fun p hp => ?_, row := fun j p r e1 e2 => ?_, l1 := by rw [List.length_set]; exact h.l1, l2 := by rw [List.length_set]; exact h.l2, rng := fun r hr' => ?_ }
  · rw [upd_ne (ne_of_none e h.rn)]
    exact h.kp b1 o1 n1 e
  · obtain ⟨c, m, e, r⟩ := h.bag
    exact ⟨c, m, by rw [upd_ne (Ne.symm h.rb)]; exact e, r⟩
  · rw [upd_same, List.map_set]
  · rcases List.mem_or_eq_of_mem_set hp with z | z
    · exact h.fr p z
    · rw [z]; exact ⟨q0, q1, q2, q3⟩
  · have hprl : p ≠ rl := by
      rcases List.mem_or_eq_of_mem_set (List.mem_of_getElem? e1) with z | z
      · exact (h.fr p z).2.2.2
      · rw [z]; exact q3
    rw [upd_ne hprl]
    by_cases hij : j = i
    · subst hij
      rw [List.getElem?_set_self (by rw [h.l1]; exact hi)] at e1
      rw [List.getElem?_set_self (by rw [h.l2]; exact hi)] at e2
      cases e1
      cases e2
      exact hq1
    · rw [List.getElem?_set_ne (Ne.symm hij)] at e1 e2
      exact h.row j p r e1 e2
  · rcases List.mem_or_eq_of_mem_set hr' with z | z
    · exact h.rng r z
    · rw [z]; exact hr
theorem NI.at (h : NI H b o rl n os H1 rps rows) {x : Int} (hx : x ∈ os) : ∃ p r, atI (rps.map V.ref) x = some (.ref p) ∧ rps[x.toNat]? = some p ∧ rows[x.toNat]? = some r ∧ H1 p = some (.lst (r.map V.int)) ∧ x.toNat < n := by
  obtain ⟨x0, x1⟩ := h.oo.mem hx
  have hx2 : x.toNat < n := by omega
  have e : x = ((x.toNat : Nat) : Int) := by omega
  have g1 : x.toNat < rps.length := by rw [h.l1]; exact hx2
  have g2 : x.toNat < rows.length := by rw [h.l2]; exact hx2
  have e1 : rps[x.toNat]? = some rps[x.toNat] := List.getElem?_eq_getElem g1
  have e2 : rows[x.toNat]? = some rows[x.toNat] := List.getElem?_eq_getElem g2
  have := atI_nat (xs := rps.map V.ref) (j := x.toNat) (v := .ref rps[x.toNat]) (by rw [List.getElem?_map, e1]; rfl)
  rw [← e] at this
  exact ⟨_, _, this, e1, e2, h.row _ _ _ e1 e2, hx2⟩
theorem atI_neg {α : Type} {xs : List α} (h : 0 < xs.length) : ∃ x, atI xs (-1) = some x ∧ x ∈ xs := by
  have e : ixN xs.length (-1) = some (xs.length - 1) := by
    unfold ixN
    rw [if_neg (by decide), if_pos (by omega)]
    congr 1
    omega
  refine ⟨xs[xs.length - 1], ?_, List.getElem_mem _⟩
  unfold atI
  rw [e]
  exact List.getElem?_eq_getElem (by omega)
theorem OrderOf.at {n : Nat} {os : List Int} (h : OrderOf n os) {i : Int} (h0 : -1 ≤ i) (h1 : i < n) (hn : 1 ≤ n) : ∃ x : Int, atI (os.map V.int) i = some (.int x) ∧ x ∈ os := by
  by_cases hi : 0 ≤ i
  · obtain ⟨v, e1, e2⟩ := atI_ints (ns := os) hi (by rw [h.len]; exact h1)
    exact ⟨v, e1, List.mem_of_getElem? e2⟩
  · have e : i = -1 := by omega
    subst e
    obtain ⟨x, e1, e2⟩ := atI_neg (xs := os.map V.int) (by rw [List.length_map, h.len]; exact hn)
    obtain ⟨v, hv, rfl⟩ := List.mem_map.mp e2
    exact ⟨v, e1, hv⟩
end
end My

set_option Elab.async false
set_option maxRecDepth 100000
set_option maxHeartbeats 4000000
namespace My
open PySem L2 PyProof.Rows
section
variable {P : Program} {w : World} {K : PySem.W.Frag} {mg : Str → Option Value} {base : Heap} {tb : List Addr}
theorem range_at {n : Int} {i : Nat} {x : V} (hx : ((List.range n.toNat).map fun i => V.int (0 + (i : Nat)))[i]? = some x) : x = .int (i : Nat) ∧ (i : Int) < n := by
  rw [List.getElem?_map] at hx
  cases e : (List.range n.toNat)[i]? with
  | none => rw [e] at hx; cases hx
  | some k =>
    rw [e] at hx
    obtain ⟨h1, h2⟩ := List.getElem?_eq_some_iff.mp e
    rw [List.length_range] at h1
    have h3 : k = i := by simpa using h2.symm
    have h4 : x = .int (0 + (k : Nat)) := (Option.some.inj hx).symm
    rw [h4, h3]
    exact ⟨by simp, by omega⟩
theorem range_len {n : Int} : ((List.range n.toNat).map fun i => V.int (0 + (i : Nat))).length = n.toNat := by simp
def spMade : Sp := fun vs H Q _ => ∃ (b : Addr) (most : Int), vs = [.ref b, .int most] ∧ BagAt H b ∧ 1 ≤ most ∧ most ≤ 9 ∧
  ∀ (v : V) (net : List (List Int)) (n : Nat) (H' : Hp), NetAt H' v net → NetOk net n → KeepBut b H H' → BagAt H' b → (net.length : Int) ≤ most → Q v H'
set_option maxHeartbeats 8000000 in
theorem ok_law_net {f f1 f2 : Addr} {fd fd1 fd2 : FuncData} (D : Df K mg "_law_net" s__law_net ["_law_bag_here", "_law_most"] f fd) (D__law_take : Df K mg "_law_take" s__law_take ["_law_bag_here", "_law_many"] f1 fd1) (D__law_order : Df K mg "_law_order" s__law_order ["_law_bag_here", "_law_many"] f2 fd2) (bl : Bl mg) :
    FnOk P w K mg base CX0 3 f fd ["_law_bag_here", "_law_most"] spMade := by
  have G__law_take : FnOk P w K mg base CX0 1 f1 fd1 ["_law_bag_here", "_law_many"] spTake := ok_law_take D__law_take
  have G__law_order : FnOk P w K mg base CX0 2 f2 fd2 ["_law_bag_here", "_law_many"] spOrder := ok_law_order D__law_order D__law_take bl
  refine D.fn.ok sc__law_net (fun vs H Q E h => ?_) (fun cdv A outer s H vs Q E hr h => ?_)
  · obtain ⟨b, most, rfl, _⟩ := h
    rfl
  obtain ⟨b, most, rfl, hB, m1, m9, q⟩ := h
  refine Ho.run (Pre := fun σ H1 => H1 = H ∧ σ = [some (.ref b), some (.int most), none, none, none, none, none, none, none, none, none]) ⟨rfl, rfl⟩ ?_
  refine Ho.cons (fun σ H1 => KeepBut b H H1 ∧ BagAt H1 b ∧ ∃ many : Int, 1 ≤ many ∧ many ≤ most ∧ σ = [some (.ref b), some (.int most), some (.int many), none, none, none, none, none, none, none, none]) ⟨_, (ps_set (i := 2) sc__law_net.nd rfl (Or.inl rfl) (pe_op op_add pe_int (pe_call G__law_take (hr.mono (by decide)) rfl D__law_take.mg D__law_take.fn.kp D__law_take.bd .nil pass0 (pa_cons (pv 0) (pa_cons (pv 1) pa_nil))))), ?_⟩ ?_
  · rintro N σ H1 ⟨rfl, rfl⟩ k
    refine ⟨_, rfl, _, rfl, b, _, rfl, hB, m1, by omega, fun d H2 d0 d1 k2 hB2 => ⟨_, _, rfl, rfl, k _ _ ⟨k2, hB2, _, by omega, by omega, rfl⟩⟩⟩
  refine Ho.cons (fun σ H1 => KeepBut b H H1 ∧ BagAt H1 b ∧ ∃ many fans : Int, 1 ≤ many ∧ many ≤ most ∧ 2 ≤ fans ∧ fans ≤ 3 ∧ σ = [some (.ref b), some (.int most), some (.int many), some (.int fans), none, none, none, none, none, none, none]) ⟨_, (ps_set (i := 3) sc__law_net.nd rfl (Or.inl rfl) (pe_op op_add pe_int (pe_call G__law_take (hr.mono (by decide)) rfl D__law_take.mg D__law_take.fn.kp D__law_take.bd .nil pass0 (pa_cons (pv 0) (pa_cons pe_int pa_nil))))), ?_⟩ ?_
  · rintro N σ H1 ⟨k1, hB1, many, a1, a2, rfl⟩ k
    refine ⟨_, rfl, b, _, rfl, hB1, by decide, by decide, fun d H2 d0 d1 k2 hB2 => ⟨_, _, rfl, rfl, k _ _ ⟨k1.trans k2, hB2, many, _, a1, a2, by omega, by omega, rfl⟩⟩⟩
  refine Ho.cons (fun σ H1 => KeepBut b H H1 ∧ BagAt H1 b ∧ ∃ many fans kind : Int, 1 ≤ many ∧ many ≤ most ∧ 2 ≤ fans ∧ fans ≤ 3 ∧ σ = [some (.ref b), some (.int most), some (.int many), some (.int fans), some (.int kind), none, none, none, none, none, none]) ⟨_, (ps_set (i := 4) sc__law_net.nd rfl (Or.inl rfl) (pe_call G__law_take (hr.mono (by decide)) rfl D__law_take.mg D__law_take.fn.kp D__law_take.bd .nil pass0 (pa_cons (pv 0) (pa_cons pe_int pa_nil)))), ?_⟩ ?_
  · rintro N σ H1 ⟨k1, hB1, many, fans, a1, a2, a3, a4, rfl⟩ k
    refine ⟨_, rfl, b, _, rfl, hB1, by decide, by decide, fun d H2 d0 d1 k2 hB2 => k _ _ ⟨k1.trans k2, hB2, many, fans, d, a1, a2, a3, a4, rfl⟩⟩
  refine Ho.cons (fun σ H1 => KeepBut b H H1 ∧ BagAt H1 b ∧ ∃ many fans kind : Int, 1 ≤ many ∧ many ≤ most ∧ 2 ≤ fans ∧ fans ≤ 3 ∧ σ = [some (.ref b), some (.int most), some (.int many), some (.int fans), some (.int kind), some (.int 1), none, none, none, none, none]) ⟨_, (ps_set (i := 5) sc__law_net.nd rfl (Or.inr rfl) pe_int), ?_⟩ ?_
  · rintro N σ H1 ⟨k1, hB1, many, fans, kind, a1, a2, a3, a4, rfl⟩ k
    exact k _ _ ⟨k1, hB1, many, fans, kind, a1, a2, a3, a4, rfl⟩
  refine Ho.cons (fun σ H1 => KeepBut b H H1 ∧ BagAt H1 b ∧ ∃ many fans kind lap : Int, 1 ≤ many ∧ many ≤ most ∧ 2 ≤ fans ∧ fans ≤ 3 ∧ 1 ≤ lap ∧ lap ≤ many ∧ σ = [some (.ref b), some (.int most), some (.int many), some (.int fans), some (.int kind), some (.int lap), none, none, none, none, none]) ⟨_, (ps_if (pt_cmpR op_eq (pv 4) pe_int (nomark _))
      (pss_cons (ps_set (i := 5) sc__law_net.nd rfl (Or.inr rfl) (pe_callB (call_min2 rfl) rfl bl.min_ bt_min (pa_cons (pe_op op_add pe_int (pe_call G__law_take (hr.mono (by decide)) rfl D__law_take.mg D__law_take.fn.kp D__law_take.bd .nil pass0 (pa_cons (pv 0) (pa_cons pe_int pa_nil)))) (pa_cons (pv 2) pa_nil))))
    (pss_one (ps_set (i := 2) sc__law_net.nd rfl (Or.inl rfl) (pe_op op_mul (pe_op op_fdiv (pv 2) (pv 5)) (pv 5)))))
      pss_nil), ?_⟩ ?_
  · rintro N σ H1 ⟨k1, hB1, many, fans, kind, a1, a2, a3, a4, rfl⟩ k
    refine ⟨_, rfl, rfl, _, rfl, ?_⟩
    refine ite2 (fun _ => ?_) (fun _ => k _ _ ⟨k1, hB1, many, fans, kind, 1, a1, a2, a3, a4, Int.le_refl _, a1, rfl⟩)
    refine ⟨_, rfl, b, _, rfl, hB1, by decide, by decide, fun d H2 d0 d1 k2 hB2 => ⟨_, _, rfl, rfl, _, rfl, _, _, rfl, ?_⟩⟩
    obtain ⟨lap, el, l1, l2⟩ : ∃ lap : Int, (if many < 2 + d then many else 2 + d) = lap ∧ 1 ≤ lap ∧ lap ≤ many := ⟨_, rfl, by split <;> omega, by split <;> omega⟩
    rw [el]
    have dv1 : 1 ≤ many / lap := by
      have := Int.ediv_le_ediv (c := lap) (by omega) l2
      rwa [Int.ediv_self (by omega)] at this
    have dv2 : many / lap * lap ≤ many := Int.ediv_mul_le many (by omega)
    have dv3 : lap ≤ many / lap * lap := by
      have := Int.mul_le_mul_of_nonneg_right dv1 (show 0 ≤ lap by omega)
      rwa [Int.one_mul] at this
    refine ⟨_, rfl, _, rfl, _, _, rfl, rfl, ⟨by omega, by omega⟩, _, rfl, _, _, rfl, rfl, .inr ⟨by omega, by omega⟩, ?_⟩
    exact k _ _ ⟨k1.trans k2, hB2, _, fans, kind, lap, by omega, by omega, a3, a4, l1, dv3, rfl⟩
  refine Ho.cons (fun σ H1 => ∃ (many fans : Nat) (kind lap : Int) (o : Addr) (os : List Int), KeepBut b H H1 ∧ BagAt H1 b ∧ H1 o = some (.lst (os.map V.int)) ∧ OrderOf many os ∧ o ≠ b ∧ H o = none ∧ 1 ≤ many ∧ (many : Int) ≤ most ∧ (fans = 2 ∨ fans = 3) ∧ 1 ≤ lap ∧ lap ≤ many ∧
      σ = [some (.ref b), some (.int most), some (.int (many : Nat)), some (.int (fans : Nat)), some (.int kind), some (.int lap), some (.ref o), none, none, none, none]) ⟨_, (ps_set (i := 6) sc__law_net.nd rfl (Or.inr rfl) (pe_call G__law_order (hr.mono (by decide)) rfl D__law_order.mg D__law_order.fn.kp D__law_order.bd .nil pass0 (pa_cons (pv 0) (pa_cons (pv 2) pa_nil)))), ?_⟩ ?_
  · rintro N σ H1 ⟨k1, hB1, many, fans, kind, lap, a1, a2, a3, a4, a5, a6, rfl⟩ k
    obtain ⟨mN, rfl⟩ : ∃ mN : Nat, many = (mN : Nat) := ⟨many.toNat, by omega⟩
    obtain ⟨fN, rfl⟩ : ∃ fN : Nat, fans = (fN : Nat) := ⟨fans.toNat, by omega⟩
    refine ⟨_, rfl, _, rfl, b, mN, rfl, hB1, by omega, fun o os H2 ho oo k2 hB2 ho2 => ?_⟩
    obtain ⟨cb, mb, hb, _, _⟩ := hB1
    have ob : o ≠ b := (ne_of_none hb ho).symm
    have hHo : H o = none := by
      cases z : H o with
      | none => rfl
      | some u => rcases k1 o u ob z with z2 | ⟨_, _, _, z2, _⟩ <;> (rw [ho] at z2; cases z2)
    exact k _ _ ⟨mN, fN, kind, lap, o, os, k1.trans k2, hB2, ho2, oo, ob, hHo, by omega, a2, by omega, a5, a6, rfl⟩
  refine Ho.cons (fun σ H1 => ∃ (many fans : Nat) (kind lap : Int) (o rl : Addr) (os : List Int) (rps : List Addr) (rows : List (List Int)), NI H b o rl many os H1 rps rows ∧ (∀ r ∈ rows, r = []) ∧ 1 ≤ many ∧ (many : Int) ≤ most ∧ (fans = 2 ∨ fans = 3) ∧ 1 ≤ lap ∧ lap ≤ many ∧
      σ = [some (.ref b), some (.int most), some (.int (many : Nat)), some (.int (fans : Nat)), some (.int kind), some (.int lap), some (.ref o), some (.ref rl), none, none, none]) ⟨_, (ps_setcomp (i := 7) sc__law_net.nd rfl rfl (N' := ["_law_place"]) (tn := 1) (idx := []) rfl (show BlockOk ["_law_bag_here", "_law_most", "_law_many", "_law_fans", "_law_kind", "_law_lap", "_law_order_here", "_law_rows", "_law_k", "_law_goals", "_law_fan"] (defScope s__law_net) _ ["_law_place"] 1 [] from by decide +kernel) (pi_range1 rfl bl.range_ (pa_cons (pv 2) pa_nil)) (fun _ _ _ _ _ => (pg_name (i := 0) (show List.Nodup [("_law_place" : Str)] from by decide +kernel) rfl (Or.inl rfl))) (fun _ _ _ _ _ => pif_nil) (fun _ _ _ _ _ => (pe_lst pa_nil))), ?_⟩ ?_
  · rintro N σ H1 ⟨many, fans, kind, lap, o, os, k1, hB1, ho, oo, ob, on, a1, a2, a3, a4, a5, rfl⟩ k
    refine ⟨_, rfl, _, rfl, by omega, by omega, fun rl hrl => ?_⟩
    have rb : rl ≠ b := by obtain ⟨cb, mb, hb, _⟩ := hB1; exact (ne_of_none hb hrl).symm
    have ro : rl ≠ o := (ne_of_none ho hrl).symm
    have rn : H rl = none := by
      cases z : H rl with
      | none => rfl
      | some u => rcases k1 rl u rb z with z2 | ⟨_, _, _, z2, _⟩ <;> (rw [hrl] at z2; cases z2)
    refine tturn0 (τ0 := [none]) (fun i acc H2 => ∃ rps : List Addr, acc = rps.map V.ref ∧ rps.length = i ∧ KeepBut b H H2 ∧ BagAt H2 b ∧ H2 o = some (.lst (os.map V.int)) ∧ H2 rl = some (.lst acc) ∧ rps.Nodup ∧ ∀ p ∈ rps, H p = none ∧ p ≠ b ∧ p ≠ o ∧ p ≠ rl ∧ H2 p = some (.lst []))
      (fun _ _ _ _ _ => runs_range) ?_ ?_ ?_
    · have k0 : Keep H1 (upd H1 rl (.lst [])) := .new hrl _
      exact ⟨[], rfl, rfl, k1.trans (k0.but b), hB1.keep k0, k0.lst ho, upd_same, List.nodup_nil, fun p hp => absurd hp (by simp)⟩
    · rintro i x acc H2 hx ⟨rps, rfl, hl, k2, hB2, ho2, hr2, nd, hp2⟩ R hR
      obtain ⟨_, hi⟩ := range_at hx
      refine ⟨by decide, fun p hp => ?_⟩
      have pb : p ≠ b := by obtain ⟨cb, mb, hb, _⟩ := hB2; exact (ne_of_none hb hp).symm
      have po : p ≠ o := (ne_of_none ho2 hp).symm
      have pr : p ≠ rl := (ne_of_none hr2 hp).symm
      have pn : H p = none := by
        cases z : H p with
        | none => rfl
        | some u => rcases k2 p u pb z with z2 | ⟨_, _, _, z2, _⟩ <;> (rw [hp] at z2; cases z2)
      have pin : p ∉ rps := fun hm => by have := (hp2 p hm).2.2.2.2; rw [hp] at this; cases this
      have kk : Keep H2 (upd H2 p (.lst [])) := .new hp _
      refine hR _ _ (kk.lst hr2) (by rw [List.length_map, hl]; exact Nat.lt_of_le_of_lt (show i ≤ 1000 by omega) (by decide)) ?_
      refine ⟨rps ++ [p], by rw [List.map_append]; rfl, by simp [hl], ?_, ?_, ?_, upd_same, ?_, ?_⟩
      · refine fun b1 o1 n1 e => ?_
        rw [upd_ne (ne_of_none e rn), upd_ne (ne_of_none e pn)]
        exact k2 b1 o1 n1 e
      · obtain ⟨c, m, e, r⟩ := hB2
        exact ⟨c, m, by rw [upd_ne (Ne.symm rb), upd_ne (Ne.symm pb)]; exact e, r⟩
      · rw [upd_ne (Ne.symm ro)]; exact kk.lst ho2
      · refine List.nodup_append.mpr ⟨nd, by simp, fun a ha c hc e => pin ?_⟩
        rw [List.mem_singleton.mp hc] at e
        rw [← e]; exact ha
      · intro p' hp'
        rcases List.mem_append.mp hp' with z | z
        · obtain ⟨y1, y2, y3, y4, y5⟩ := hp2 p' z
          exact ⟨y1, y2, y3, y4, by rw [upd_ne y4]; exact kk.lst y5⟩
        · rw [List.mem_singleton.mp z]
          exact ⟨pn, pb, po, pr, by rw [upd_ne pr]; exact upd_same⟩
    · rintro acc H2 ⟨rps, rfl, hl, k2, hB2, ho2, hr2, nd, hp2⟩
      rw [range_len] at hl
      have hl' : rps.length = many := by simpa using hl
      refine k _ _ ⟨many, fans, kind, lap, o, rl, os, rps, List.replicate many [], ⟨k2, hB2, ho2, oo, ob, on, rb, ro, rn, hr2, nd, fun p hp => ⟨(hp2 p hp).1, (hp2 p hp).2.1, (hp2 p hp).2.2.1, (hp2 p hp).2.2.2.1⟩, fun i p r e1 e2 => ?_, hl', by simp, fun r hr' => ?_⟩, fun r hr' => (List.eq_of_mem_replicate hr'), a1, a2, a3, a4, a5, rfl⟩
      · have := List.eq_of_mem_replicate (List.mem_of_getElem? e2)
        subst this
        exact (hp2 p (List.mem_of_getElem? e1)).2.2.2.2
      · rw [List.eq_of_mem_replicate hr']
        intro g hg
        cases hg
  refine Ho.cons (fun σ H1 => ∃ (many fans : Nat) (kind : Int) (vl : Option V) (o rl : Addr) (os : List Int) (rps : List Addr) (rows : List (List Int)) (vk vg vf : Option V), NI H b o rl many os H1 rps rows ∧ (∀ r ∈ rows, r.length = fans) ∧ 1 ≤ many ∧ (many : Int) ≤ most ∧ (fans = 2 ∨ fans = 3) ∧
      σ = [some (.ref b), some (.int most), some (.int (many : Nat)), some (.int (fans : Nat)), some (.int kind), vl, some (.ref o), some (.ref rl), vk, vg, vf]) ⟨_, (ps_for PassesOwn.never rfl (pi_range1 rfl bl.range_ (pa_cons (pv 2) pa_nil)) (pg_name (i := 8) sc__law_net.nd rfl (Or.inr rfl))
      (pss_cons (ps_setcomp (i := 9) sc__law_net.nd rfl rfl (N' := ["_law_j", "_law_order_here", "_law_lap", "_law_k"]) (tn := 1) (idx := [6, 5, 8]) rfl (show BlockOk ["_law_bag_here", "_law_most", "_law_many", "_law_fans", "_law_kind", "_law_lap", "_law_order_here", "_law_rows", "_law_k", "_law_goals", "_law_fan"] (defScope s__law_net) _ ["_law_j", "_law_order_here", "_law_lap", "_law_k"] 1 [6, 5, 8] from by decide +kernel) (pi_range1 rfl bl.range_ (pa_cons (pv 2) pa_nil)) (fun _ _ _ _ _ => (pg_name (i := 0) (show List.Nodup [("_law_j" : Str), ("_law_order_here" : Str), ("_law_lap" : Str), ("_law_k" : Str)] from by decide +kernel) rfl (Or.inl rfl))) (fun _ _ _ _ _ => (pif_one (pt_cmpR op_eq (pe_op op_mod (pv 0) (pv 2)) (pe_op op_mod (pe_op op_add (pv 3) pe_int) (pv 2)) (nomark _)))) (fun _ _ _ _ _ => (pe_ix (ix_listK (K := K) rfl) (pv 1) (pv 0) (fun _ _ => rfl))))
    (pss_one (ps_for PassesOwn.never rfl (pi_range1 rfl bl.range_ (pa_cons (pv 3) pa_nil)) (pg_name (i := 10) sc__law_net.nd rfl (Or.inl rfl))
      (pss_one (ps_expr (pe_bmK (K := K) rfl PySem.F.plainAttrs_list PySem.F.slot_list_append PySem.F.type_list_append mt_append (pe_ix (ix_listK (K := K) rfl) (pv 7) (pe_ix (ix_listK (K := K) rfl) (pv 6) (pv 8) (fun _ _ => rfl)) (fun _ _ => rfl)) (pa_cons (pe_ix (ix_listK (K := K) rfl) (pv 9) (pe_call G__law_take (hr.mono (by decide)) rfl D__law_take.mg D__law_take.fn.kp D__law_take.bd .nil pass0 (pa_cons (pv 0) (pa_cons (pe_callB (call_len_seqK (K := K) rfl) rfl bl.len_ PySem.boot_len (pa_cons (pv 9) pa_nil)) pa_nil))) (fun _ _ => rfl)) pa_nil)))))))), ?_⟩ ?_
  · rintro N σ H1 ⟨many, fans, kind, lap, o, rl, os, rps, rows, h, hz, a1, a2, a3, a4, a5, rfl⟩ k
    refine ⟨_, rfl, _, rfl, by omega, by omega, ?_⟩
    refine for_of (fun i σ H2 => ∃ (rows : List (List Int)) (vk vg vf : Option V), NI H b o rl many os H2 rps rows ∧ (∀ (j : Nat) r, rows[j]? = some r → r.length = if ((j : Nat) : Int) ∈ os.take i then fans else 0) ∧
      σ = [some (.ref b), some (.int most), some (.int (many : Nat)), some (.int (fans : Nat)), some (.int kind), some (.int lap), some (.ref o), some (.ref rl), vk, vg, vf]) ⟨rows, none, none, none, h, fun j r e => by rw [hz r (List.mem_of_getElem? e)]; simp, rfl⟩ (fun _ _ _ _ _ => runs_range) ?_ ?_
    · rintro i x σ H2 hx ⟨rows, vk, vg, vf, h2, hlen, rfl⟩
      obtain ⟨rfl, hi⟩ := range_at hx
      refine ⟨_, rfl, _, rfl, by omega, by omega, fun dl hdl => ?_⟩
      have fd := h2.fresh hdl
      refine tturn_of (τ0 := [none, some (.ref o), some (.int lap), some (.int (i : Nat))]) (fun j acc H3 => NI H b o rl many os H3 rps rows ∧ H3 dl = some (.lst acc) ∧ ∃ gs : List Int, acc = gs.map V.int ∧ gs.length ≤ j ∧ (∀ g ∈ gs, 0 ≤ g ∧ g < (many : Int)) ∧ (((i : Int) + 1) % lap < j → gs ≠ []))
        (fun _ _ _ _ _ => runs_range) ⟨h2.new hdl _, upd_same, [], rfl, Nat.le_refl _, fun g hg => absurd hg (by simp), fun z => absurd z (by have := Int.emod_nonneg ((i : Int) + 1) (show lap ≠ 0 by omega); omega)⟩ ?_ ?_
      · rintro j x acc H3 hx ⟨h3, hd3, gs, rfl, hgl, hgr, hne⟩ R1 R2 hR2 hR1
        obtain ⟨rfl, hj⟩ := range_at hx
        refine ⟨_, rfl, _, rfl, _, _, rfl, rfl, (by show 0 < lap; omega), _, rfl, _, _, rfl, rfl, _, rfl, _, _, rfl, rfl, (by show 0 < lap; omega), rfl, _, rfl, ?_⟩
        refine ite2 (fun c => ?_) (fun c => ?_)
        · obtain ⟨y, hy, ym⟩ := h3.oo.at (i := (j : Nat)) (by omega) hj a1
          refine ⟨_, rfl, _, rfl, o, _, _, _, rfl, rfl, SqL.of h3.ord, hy, hR2 _ _ hd3 (by rw [List.length_map]; exact Nat.lt_of_le_of_lt (show gs.length ≤ 1000 by omega) (by decide)) ⟨h3.other fd _, upd_same, gs ++ [y], by rw [List.map_append]; rfl, by rw [List.length_append]; simp; omega, fun g hg => ?_, fun _ z => by simp at z⟩⟩
          rcases List.mem_append.mp hg with z | z
          · exact hgr g z
          · rw [List.mem_singleton.mp z]; exact h3.oo.mem ym
        · refine hR1 _ ⟨h3, hd3, gs, rfl, by omega, hgr, fun z => ?_⟩
          by_cases e : ((i : Int) + 1) % lap < j
          · exact hne e
          · exfalso
            have e2 : ((i : Int) + 1) % lap = (j : Nat) := by omega
            have l2 := Int.emod_lt_of_pos ((i : Int) + 1) (show 0 < lap by omega)
            refine c (decide_eq_true ?_)
            have e3 : ((j : Nat) : Int) % lap = (j : Nat) := Int.emod_eq_of_lt (by omega) (by omega)
            show V.int (((j : Nat) : Int) % lap) = V.int ((((i : Nat) : Int) + 1) % lap)
            rw [e3, e2]
      · rintro acc H3 ⟨h3, hd3, gs, rfl, hgl, hgr, hne⟩
        have hgl2 : gs.length ≤ many := by
          rw [range_len] at hgl
          simpa using hgl
        have gpos : 0 < gs.length := by
          refine List.length_pos_iff.mpr (hne ?_)
          rw [range_len]
          have l2 := Int.emod_lt_of_pos ((i : Int) + 1) (show 0 < lap by omega)
          omega
        obtain ⟨x, hxa, hxm⟩ := h3.oo.at (i := (i : Nat)) (by omega) hi a1
        have hxi : os[i]? = some x := by
          obtain ⟨v, e1, e2⟩ := atI_ints (ns := os) (i := (i : Nat)) (by omega) (by rw [h3.oo.len]; exact hi)
          rw [hxa] at e1
          have e3 : x = v := by injection e1 with e1; injection e1
          rw [e3]; simpa using e2
        have hxn : x ∉ os.take i := fun z => by
          obtain ⟨j, hj, e⟩ := List.getElem_of_mem z
          rw [List.getElem_take] at e
          have hj2 : j < i := by rw [List.length_take] at hj; omega
          have := nodup_at h3.oo.nodup (List.getElem?_eq_getElem (by rw [List.length_take] at hj; omega)) (e ▸ hxi : os[i]? = some _)
          omega
        have hxt : ∀ y : Int, y ∈ os.take (i + 1) ↔ y ∈ os.take i ∨ y = x := fun y => by
          rw [List.take_add_one, hxi]
          simp
        obtain ⟨x0, x1⟩ := h3.oo.mem hxm
        refine ⟨_, rfl, _, rfl, by omega, by omega, ?_⟩
        refine for_of (fun t σ H4 => ∃ (rows : List (List Int)) (vf : Option V), NI H b o rl many os H4 rps rows ∧ H4 dl = some (.lst (gs.map V.int)) ∧ (∀ (j : Nat) r, rows[j]? = some r → r.length = if ((j : Nat) : Int) = x then t else if ((j : Nat) : Int) ∈ os.take i then fans else 0) ∧
          σ = [some (.ref b), some (.int most), some (.int (many : Nat)), some (.int (fans : Nat)), some (.int kind), some (.int lap), some (.ref o), some (.ref rl), some (.int (i : Nat)), some (.ref dl), vf]) ⟨rows, vf, h3, hd3, fun j r e => ?_, rfl⟩ (fun _ _ _ _ _ => runs_range) ?_ ?_
        · rw [hlen j r e]
          by_cases hj : ((j : Nat) : Int) = x
          · rw [if_pos hj, if_neg (by rw [hj]; exact hxn)]
          · rw [if_neg hj]
        · rintro t y σ H4 hy ⟨rows, vf, h4, hd4, hlen4, rfl⟩
          obtain ⟨rfl, ht⟩ := range_at hy
          obtain ⟨p, r, hpa, hp, hr4, hrow, hxl⟩ := h4.at hxm
          refine ⟨_, rfl, _, rfl, _, rfl, o, _, _, _, rfl, rfl, SqL.of h4.ord, hxa, rl, _, _, _, rfl, rfl, SqL.of h4.top, hpa, .inl ⟨rfl, _, SqL.of hrow⟩, ?_⟩
          have hgl' : (gs.map V.int).length = gs.length := List.length_map _
          refine ⟨_, rfl, _, rfl, _, rfl, dl, _, rfl, .inl (SqL.of hd4), b, _, rfl, h4.bag, by rw [hgl']; omega, by rw [hgl']; omega, fun d H5 d0 d1 k5 hB5 => ?_⟩
          rw [hgl'] at d1
          have h5 := h4.take k5 hB5
          have hd5 := k5.lst fd.2.1 hd4
          obtain ⟨g, hg, hgm⟩ := atI_ints (ns := gs) d0 d1
          have hrow5 := h5.row _ _ _ hp hr4
          have hrl : r.length ≤ 1000 := by rw [hlen4 _ _ hr4]; split <;> (try split) <;> omega
          refine ⟨dl, _, _, _, rfl, rfl, SqL.of hd5, hg, p, _, _, rfl, rfl, hrow5, by rw [List.length_map]; exact Nat.lt_of_le_of_lt hrl (by decide), ?_⟩
          have e6 : r.map V.int ++ [V.int g] = (r ++ [g]).map V.int := by rw [List.map_append]; rfl
          rw [e6]
          refine ⟨rows.set x.toNat (r ++ [g]), _, h5.put hp fun z hz => ?_, ?_, fun j r2 e => ?_, rfl⟩
          · rcases List.mem_append.mp hz with z1 | z1
            · exact h5.rng r (List.mem_of_getElem? hr4) z z1
            · rw [List.mem_singleton.mp z1]
              exact hgr g (List.mem_of_getElem? hgm)
          · rw [upd_ne (fun z => fd.2.2.2.2 (by rw [z]; exact List.mem_of_getElem? hp))]
            exact hd5
          · by_cases hj : j = x.toNat
            · subst hj
              rw [List.getElem?_set_self (by rw [h5.l2]; exact hxl)] at e
              cases e
              have ex : (((x.toNat : Nat)) : Int) = x := by omega
              rw [if_pos ex, List.length_append, hlen4 _ _ hr4, if_pos ex]
              rfl
            · rw [List.getElem?_set_ne (Ne.symm hj)] at e
              have ex : ¬ ((j : Nat) : Int) = x := by omega
              rw [hlen4 _ _ e, if_neg ex, if_neg ex]
        · rintro σ H4 ⟨rows, vf, h4, hd4, hlen4, rfl⟩
          refine ⟨rows, _, _, _, h4, fun j r e => ?_, rfl⟩
          rw [hlen4 j r e, range_len]
          by_cases hj : ((j : Nat) : Int) = x
          · rw [if_pos hj, if_pos ((hxt _).mpr (.inr hj))]
            simp
          · rw [if_neg hj]
            by_cases hj2 : ((j : Nat) : Int) ∈ os.take i
            · rw [if_pos hj2, if_pos ((hxt _).mpr (.inl hj2))]
            · rw [if_neg hj2, if_neg (fun z => ((hxt _).mp z).elim hj2 hj)]
    · rintro σ H2 ⟨rows, vk, vg, vf, h2, hlen, rfl⟩
      refine k _ _ ⟨many, fans, kind, some (.int lap), o, rl, os, rps, rows, vk, vg, vf, h2, fun r hr' => ?_, a1, a2, a3, rfl⟩
      obtain ⟨j, hj, rfl⟩ := List.getElem_of_mem hr'
      rw [hlen j _ (List.getElem?_eq_getElem hj), if_pos]
      rw [range_len, List.take_of_length_le (by rw [h2.oo.len]; simp)]
      exact h2.oo.all (by rw [h2.l2] at hj; exact hj)
  refine Ho.cons (fun σ H1 => ∃ (many fans : Nat) (kind : Int) (vl : Option V) (o rl : Addr) (os : List Int) (rps : List Addr) (rows : List (List Int)) (vk vg vf : Option V), NI H b o rl many os H1 rps rows ∧ (∀ r ∈ rows, r.length = fans) ∧ 1 ≤ many ∧ (many : Int) ≤ most ∧ (fans = 2 ∨ fans = 3) ∧
      σ = [some (.ref b), some (.int most), some (.int (many : Nat)), some (.int (fans : Nat)), some (.int kind), vl, some (.ref o), some (.ref rl), vk, vg, vf]) ⟨_, (ps_if (pt_cmpR op_gt (pv 4) pe_int (nomark _))
      (pss_one (ps_for PassesOwn.never rfl (pi_range1 rfl bl.range_ (pa_cons (pv 2) pa_nil)) (pg_name (i := 8) sc__law_net.nd rfl (Or.inr rfl))
      (pss_one (ps_asg (pe_ix (ix_listK (K := K) rfl) (pv 6) (pv 8) (fun _ _ => rfl)) (pg_sub (pe_ix (ix_listK (K := K) rfl) (pv 7) (pe_ix (ix_listK (K := K) rfl) (pv 6) (pe_op op_sub (pv 8) pe_int) (fun _ _ => rfl)) (fun _ _ => rfl)) (pe_call G__law_take (hr.mono (by decide)) rfl D__law_take.mg D__law_take.fn.kp D__law_take.bd .nil pass0 (pa_cons (pv 0) (pa_cons (pv 3) pa_nil))) set_list)))))
      pss_nil), ?_⟩ ?_
  · rintro N σ H1 ⟨many, fans, kind, vl, o, rl, os, rps, rows, vk, vg, vf, h, hf, a1, a2, a3, rfl⟩ k
    refine ⟨_, rfl, _, _, rfl, rfl, _, rfl, ?_⟩
    refine ite2 (fun _ => ?_) (fun _ => k _ _ ⟨many, fans, kind, vl, o, rl, os, rps, rows, vk, vg, vf, h, hf, a1, a2, a3, rfl⟩)
    refine ⟨_, rfl, _, rfl, by omega, by omega, ?_⟩
    refine for_of (fun i σ H2 => ∃ (rows : List (List Int)) (vk : Option V), NI H b o rl many os H2 rps rows ∧ (∀ r ∈ rows, r.length = fans) ∧
      σ = [some (.ref b), some (.int most), some (.int (many : Nat)), some (.int (fans : Nat)), some (.int kind), vl, some (.ref o), some (.ref rl), vk, vg, vf]) ⟨rows, vk, h, hf, rfl⟩ (fun _ _ _ _ _ => runs_range) ?_ ?_
    · rintro i x σ H2 hx ⟨rows, vk, h2, hf2, rfl⟩
      obtain ⟨rfl, hi⟩ := range_at hx
      obtain ⟨y, hya, hym⟩ := h2.oo.at (i := (i : Nat)) (by omega) hi a1
      obtain ⟨x, hxa, hxm⟩ := h2.oo.at (i := (i : Nat) - 1) (by omega) (by omega) a1
      obtain ⟨p, r, hpa, hp, hr2, hrow, hxl⟩ := h2.at hxm
      refine ⟨_, rfl, _, rfl, o, _, _, _, rfl, rfl, SqL.of h2.ord, hya, _, rfl, _, rfl, _, rfl, _, _, rfl, rfl, o, _, _, _, rfl, rfl, SqL.of h2.ord, hxa, rl, _, _, _, rfl, rfl, SqL.of h2.top, hpa, ?_⟩
      refine ⟨_, rfl, _, rfl, b, _, rfl, h2.bag, by omega, by omega, fun d H3 d0 d1 k3 hB3 => ?_⟩
      have h3 := h2.take k3 hB3
      have hrow3 := h3.row _ _ _ hp hr2
      have hrl := hf2 r (List.mem_of_getElem? hr2)
      have hix : ixN (r.map V.int).length d = some d.toNat := by
        unfold ixN
        rw [if_pos d0, if_pos (by rw [List.length_map, hrl]; exact d1)]
      refine ⟨p, _, _, d.toNat, rfl, rfl, hrow3, hix, ?_⟩
      have e6 : (r.map V.int).set d.toNat (.int y) = (r.set d.toNat y).map V.int := by rw [List.map_set]
      rw [e6]
      refine ⟨rows.set x.toNat (r.set d.toNat y), _, h3.put hp fun z hz => ?_, fun r2 hr2' => ?_, rfl⟩
      · rcases List.mem_or_eq_of_mem_set hz with z1 | z1
        · exact h3.rng r (List.mem_of_getElem? hr2) z z1
        · rw [z1]; exact h3.oo.mem hym
      · rcases List.mem_or_eq_of_mem_set hr2' with z1 | z1
        · exact hf2 r2 z1
        · rw [z1, List.length_set]; exact hrl
    · rintro σ H2 ⟨rows, vk, h2, hf2, rfl⟩
      exact k _ _ ⟨many, fans, kind, vl, o, rl, os, rps, rows, vk, vg, vf, h2, hf2, a1, a2, a3, rfl⟩
  refine Ho.cons (fun σ H1 => ∃ (many fans : Nat) (kind : Int) (vl : Option V) (o rl : Addr) (os : List Int) (rps : List Addr) (rows : List (List Int)) (vk vg vf : Option V), NI H b o rl many os H1 rps rows ∧ (∀ r ∈ rows, r.length = fans) ∧ 1 ≤ many ∧ (many : Int) ≤ most ∧ (fans = 2 ∨ fans = 3) ∧
      σ = [some (.ref b), some (.int most), some (.int (many : Nat)), some (.int (fans : Nat)), some (.int kind), vl, some (.ref o), some (.ref rl), vk, vg, vf]) ⟨_, (ps_if (pt_cmpR op_eq (pv 4) pe_int (nomark _))
      (pss_cons (ps_for PassesOwn.never rfl (pi_range1 rfl bl.range_ (pa_cons (pv 2) pa_nil)) (pg_name (i := 8) sc__law_net.nd rfl (Or.inr rfl))
      (pss_one (ps_asg (pe_op op_rep (pe_lst (pa_cons (pe_ix (ix_listK (K := K) rfl) (pv 6) (pv 8) (fun _ _ => rfl)) pa_nil)) (pv 3)) (pg_sub (pv 7) (pe_ix (ix_listK (K := K) rfl) (pv 6) (pe_op op_sub (pv 8) pe_int) (fun _ _ => rfl)) set_list))))
    (pss_one (ps_asg (pe_call G__law_take (hr.mono (by decide)) rfl D__law_take.mg D__law_take.fn.kp D__law_take.bd .nil pass0 (pa_cons (pv 0) (pa_cons (pv 2) pa_nil))) (pg_sub (pe_ix (ix_listK (K := K) rfl) (pv 7) pe_int (fun _ _ => rfl)) pe_int set_list))))
      pss_nil), ?_⟩ ?_
  · rintro N σ H1 ⟨many, fans, kind, vl, o, rl, os, rps, rows, vk, vg, vf, h, hf, a1, a2, a3, rfl⟩ k
    refine ⟨_, rfl, rfl, _, rfl, ?_⟩
    refine ite2 (fun _ => ?_) (fun _ => k _ _ ⟨many, fans, kind, vl, o, rl, os, rps, rows, vk, vg, vf, h, hf, a1, a2, a3, rfl⟩)
    refine ⟨_, rfl, _, rfl, by omega, by omega, ?_⟩
    refine for_of (fun i σ H2 => ∃ (rps : List Addr) (rows : List (List Int)) (vk : Option V), NI H b o rl many os H2 rps rows ∧ (∀ r ∈ rows, r.length = fans) ∧
      σ = [some (.ref b), some (.int most), some (.int (many : Nat)), some (.int (fans : Nat)), some (.int kind), vl, some (.ref o), some (.ref rl), vk, vg, vf]) ⟨rps, rows, vk, h, hf, rfl⟩ (fun _ _ _ _ _ => runs_range) ?_ ?_
    · rintro i x σ H2 hx ⟨rps, rows, vk, h2, hf2, rfl⟩
      obtain ⟨rfl, hi⟩ := range_at hx
      obtain ⟨y, hya, hym⟩ := h2.oo.at (i := (i : Nat)) (by omega) hi a1
      obtain ⟨x, hxa, hxm⟩ := h2.oo.at (i := (i : Nat) - 1) (by omega) (by omega) a1
      refine ⟨_, rfl, _, rfl, o, _, _, _, rfl, rfl, SqL.of h2.ord, hya, (by show 1 ≤ sizeLine; decide), fun l1 hl1 => ?_⟩
      have h3 := h2.new hl1 (.lst [.int y])
      refine ⟨_, rfl, l1, _, _, rfl, rfl, upd_same, by omega, by omega, by show 1 * ((fans : Nat) : Int).toNat ≤ sizeLine; exact Nat.le_trans (show 1 * ((fans : Nat) : Int).toNat ≤ 3 by omega) (by decide), fun l2 hl2 => ?_⟩
      have fr2 := h3.fresh hl2
      have h4 := h3.new hl2 (.lst (List.replicate ((fans : Nat) : Int).toNat [V.int y]).flatten)
      have e5 : (List.replicate ((fans : Nat) : Int).toNat [V.int y]).flatten = (List.replicate fans y).map V.int := by
        rcases a3 with rfl | rfl <;> rfl
      obtain ⟨x0, x1⟩ := h4.oo.mem hxm
      have hix : ixN (rps.map V.ref).length x = some x.toNat := by
        unfold ixN
        rw [if_pos x0, if_pos (by rw [List.length_map, h4.l1]; exact x1)]
      refine ⟨_, rfl, _, rfl, _, rfl, _, _, rfl, rfl, o, _, _, _, rfl, rfl, SqL.of h4.ord, hxa, rl, _, _, x.toNat, rfl, rfl, h4.top, hix, ?_⟩
      refine ⟨rps.set x.toNat l2, rows.set x.toNat (List.replicate fans y), _, h4.swap (by omega) fr2 (by rw [upd_same, e5]) fun g hg => ?_, fun r hr' => ?_, rfl⟩
      · rw [List.eq_of_mem_replicate hg]; exact h4.oo.mem hym
      · rcases List.mem_or_eq_of_mem_set hr' with z1 | z1
        · exact hf2 r z1
        · rw [z1, List.length_replicate]
    · rintro σ H2 ⟨rps, rows, vk, h2, hf2, rfl⟩
      have hp0 : 0 < rps.length := by rw [h2.l1]; omega
      have hr0 : 0 < rows.length := by rw [h2.l2]; omega
      refine ⟨_, rfl, _, rfl, b, _, rfl, h2.bag, by omega, by omega, fun d H3 d0 d1 k3 hB3 => ?_⟩
      have h3 := h2.take k3 hB3
      have e1 : rps[0]? = some rps[0] := List.getElem?_eq_getElem hp0
      have e2 : rows[0]? = some rows[0] := List.getElem?_eq_getElem hr0
      have hrow3 := h3.row _ _ _ e1 e2
      have hrl := hf2 rows[0] (List.getElem_mem hr0)
      refine ⟨_, rfl, rl, _, _, _, rfl, rfl, SqL.of h3.top, atI_nat (j := 0) (by rw [List.getElem?_map, e1]; rfl), _, _, _, 0, rfl, rfl, hrow3, ?_, ?_⟩
      · unfold ixN
        rw [if_pos (by decide), if_pos (by rw [List.length_map, hrl]; omega)]
        rfl
      have e6 : (rows[0].map V.int).set 0 (.int d) = (rows[0].set 0 d).map V.int := by rw [List.map_set]
      rw [e6]
      refine k _ _ ⟨many, fans, kind, vl, o, rl, os, rps, rows.set 0 (rows[0].set 0 d), vk, vg, vf, h3.put e1 fun z hz => ?_, fun r2 hr2' => ?_, a1, a2, a3, rfl⟩
      · rcases List.mem_or_eq_of_mem_set hz with z1 | z1
        · exact h3.rng _ (List.getElem_mem hr0) z z1
        · rw [z1]; exact ⟨d0, d1⟩
      · rcases List.mem_or_eq_of_mem_set hr2' with z1 | z1
        · exact hf2 r2 z1
        · rw [z1, List.length_set]; exact hrl
  refine Ho.last ⟨_, (ps_ret (pe_callTy (call_tuple_ofK (K := K) rfl) rfl bl.tuple_ bt_tuple (pa_cons (pe_listcomp (N' := ["_law_row"]) (tn := 1) (idx := []) rfl (show BlockOk ["_law_bag_here", "_law_most", "_law_many", "_law_fans", "_law_kind", "_law_lap", "_law_order_here", "_law_rows", "_law_k", "_law_goals", "_law_fan"] (defScope s__law_net) _ ["_law_row"] 1 [] from by decide +kernel) (pi_listK (K := K) rfl (pv 7)) (fun _ _ _ _ _ => (pg_name (i := 0) (show List.Nodup [("_law_row" : Str)] from by decide +kernel) rfl (Or.inl rfl))) (fun _ _ _ _ _ => pif_nil) (fun _ _ _ _ _ => (pe_callTy (call_tuple_ofK (K := K) rfl) rfl bl.tuple_ bt_tuple (pa_cons (pv 0) pa_nil)))) pa_nil))), ?_⟩
  rintro σ H1 ⟨many, fans, kind, vl, o, rl, os, rps, rows, vk, vg, vf, h, hf, a1, a2, a3, rfl⟩
  have e0 : SqL K H1 rl (rps.map V.ref) := SqL.of h.top
  refine ⟨_, rfl, rl, rfl, ⟨_, e0⟩, fun dl hdl => ?_⟩
  have fd := h.fresh hdl
  refine tturn0 (xs := rps.map V.ref) (τ0 := [none]) (fun i acc H2 => NI H b o rl many os H2 rps rows ∧ H2 dl = some (.lst acc) ∧ Paired (RowAt H2) acc (rows.take i)) (fun i acc H2 _ h2 => runs_list (SqL.of h2.1.top)) ⟨h.new hdl _, upd_same, .nil⟩ ?_ ?_
  · rintro i x acc H2 hx ⟨h2, hd2, pr⟩ R hR
    rw [List.getElem?_map] at hx
    cases ep : rps[i]? with
    | none => rw [ep] at hx; cases hx
    | some p =>
      rw [ep] at hx
      obtain rfl : x = .ref p := (Option.some.inj hx).symm
      have hi : i < rows.length := by rw [h2.l2, ← h2.l1]; exact (List.getElem?_eq_some_iff.mp ep).1
      have er : rows[i]? = some rows[i] := List.getElem?_eq_getElem hi
      have hrow := h2.row _ _ _ ep er
      refine ⟨_, rfl, p, _, rfl, .inl ⟨SqL.of hrow, fun t ht => ?_⟩⟩
      have kk : Keep H2 (upd H2 t (.tup (rows[i].map V.int))) := .new ht _
      have hl := pr.length
      have dt : dl ≠ t := ne_of_none hd2 ht
      refine hR _ _ (kk.lst hd2) (by rw [hl, List.length_take]; exact Nat.lt_of_le_of_lt (show min i rows.length ≤ 1000 by have := h2.l2; omega) (by decide)) ⟨(h2.new ht _).other fd _, upd_same, ?_⟩
      rw [List.take_add_one, er]
      have mv : ∀ v r, RowAt H2 v r → RowAt (upd (upd H2 t (.tup (rows[i].map V.int))) dl (.lst (acc ++ [.ref t]))) v r := fun v r ⟨a, e1, e2⟩ => ⟨a, e1, by
        rw [upd_ne (fun z => by rw [z, hd2] at e2; cases e2)]
        exact kk.tup e2⟩
      refine Paired.snoc (Paired.mapP pr mv) ⟨t, rfl, by rw [upd_ne (Ne.symm dt)]; exact upd_same⟩
  · rintro acc H2 ⟨h2, hd2, pr⟩
    refine ⟨dl, acc, rfl, .inl ⟨SqL.of hd2, fun a ha => ?_⟩⟩
    have kk : Keep H2 (upd H2 a (.tup acc)) := .new ha _
    have hlen : (rps.map V.ref).length = many := by rw [List.length_map, h2.l1]
    rw [hlen, List.take_of_length_le (by rw [h2.l2]; exact Nat.le_refl _)] at pr
    refine q (.ref a) rows fans _ ⟨a, acc, rfl, upd_same, Paired.mapP pr fun v r hv => hv.keep kk⟩ ⟨by rw [h2.l2]; exact a1, by rw [h2.l2]; omega, a3, fun r hr' => ⟨hf r hr', fun g hg => ?_⟩⟩ (h2.kp.trans (kk.but b)) (h2.bag.keep kk) (by rw [h2.l2]; exact a2)
    rw [h2.l2]
    exact h2.rng r hr' g hg
end
end My

set_option Elab.async false
set_option maxRecDepth 100000
set_option maxHeartbeats 4000000
namespace My
open PySem L2 PyProof.Rows
section
variable {P : Program} {w : World} {K : PySem.W.Frag} {mg : Str → Option Value} {base : Heap} {tb : Tbs} {k : Nat} {f : Addr} {fd : FuncData} {ps : List Str}
def zBag : ZSp := fun ds M Q _ => ∃ (ns : List Int) (t : Int), ds = [.scr ns, .int t] ∧ ns.length ≤ 63 ∧ 0 ≤ t ∧ t ≤ 63 ∧ ∀ b, M b = none → Q (.ptr b) (updM M b .bag)
theorem z_bag (G : FnOk P w K mg base CX0 k f fd ps (spBag K)) : FnOk P w K mg base CX0 k f fd ps (spZ P w K tb zBag) := G.imp fun vs H Q E ⟨β, ds, M, Q', E', eP, ew, eK, et, m, rs, ⟨ns, t, e, h1, h2, h3, h⟩, q, _⟩ => by
  subst e
  obtain ⟨x, y, rfl, r1, r2⟩ := rzs_two rs
  obtain ⟨a, rfl, hS⟩ := rz_scr_of r1
  rw [eK] at hS
  refine ⟨a, ns, t, by rw [rz_int_of r2], hS, h1, h2, h3, fun b H' hb k hB => ?_⟩
  exact q _ _ _ _ (Ex.bag m hb k hB) (.ptr (by rw [updM_same]; rfl)) (h b (m.free hb))
def zTake : ZSp := fun ds M Q _ => ∃ (b : Addr) (n : Int), ds = [.ptr b, .int n] ∧ M b = some .bag ∧ 1 ≤ n ∧ n < 1073741824 ∧ ∀ d : Nat, (d : Int) < n → Q (.int (d : Nat)) M
theorem z_take (G : FnOk P w K mg base CX0 k f fd ps spTake) : FnOk P w K mg base CX0 k f fd ps (spZ P w K tb zTake) := G.imp fun vs H Q E ⟨β, ds, M, Q', E', eP, ew, eK, et, m, rs, ⟨b, n, e, hb, h1, h2, h⟩, q, _⟩ => by
  subst e
  obtain ⟨x, y, rfl, r1, r2⟩ := rzs_two rs
  obtain ⟨rfl, _⟩ := rz_ptr_of r1
  refine ⟨b, n, by rw [rz_int_of r2], m.obj b _ hb, h1, h2, fun d H' d0 d1 kb hB => ?_⟩
  obtain ⟨c, rfl⟩ := Int.eq_ofNat_of_zero_le d0
  exact q _ _ _ _ (Ex.of_but m hb kb hB) (.int _) (h c d1)
def zMade : ZSp := fun ds M Q _ => ∃ (b : Addr) (most : Nat), ds = [.ptr b, .int (most : Nat)] ∧ M b = some .bag ∧ 1 ≤ most ∧ most ≤ 9 ∧ ∀ net n, NetOk net n → net.length ≤ most → Q (eN net) M
theorem z_net (G : FnOk P w K mg base CX0 k f fd ps spMade) : FnOk P w K mg base CX0 k f fd ps (spZ P w K tb zMade) := G.imp fun vs H Q E ⟨β, ds, M, Q', E', eP, ew, eK, et, m, rs, ⟨b, n, e, hb, h1, h2, h⟩, q, _⟩ => by
  subst e
  obtain ⟨x, y, rfl, r1, r2⟩ := rzs_two rs
  obtain ⟨rfl, _⟩ := rz_ptr_of r1
  refine ⟨b, n, by rw [rz_int_of r2], m.obj b _ hb, by omega, by omega, fun v net w H' hN hO kb hB hl => ?_⟩
  have x := Ex.of_but m hb kb hB
  exact q _ _ _ _ x (rz_net x.mz hN) (h net w hO (by omega))
end
end My

set_option Elab.async false
set_option maxRecDepth 100000
set_option maxHeartbeats 4000000
namespace My
open PySem L2 PyProof.Rows
section
variable {P : Program} {w : World} {K : PySem.W.Frag} {mg : Str → Option Value} {base : Heap} {tb : Tbs}
theorem sc__law_led : FnScope ["_law_net_here", "_law_place", "_law_word_here", "_law_sign"] ["_law_net_here", "_law_place", "_law_word_here"] (defScope s__law_led) := ⟨rfl, rfl, rfl, by decide +kernel, rfl, by decide +kernel, by decide +kernel⟩
theorem sc__law_word : FnScope ["_law_bag_here", "_law_net_here", "_law_most", "_law_word_here", "_law_k"] ["_law_bag_here", "_law_net_here", "_law_most"] (defScope s__law_word) := ⟨rfl, rfl, rfl, by decide +kernel, rfl, by decide +kernel, by decide +kernel⟩
theorem sc__law_due : FnScope ["_law_net_here", "_law_word_here", "_law_step", "_law_here", "_law_met"] ["_law_net_here", "_law_word_here"] (defScope s__law_due) := ⟨rfl, rfl, rfl, by decide +kernel, rfl, by decide +kernel, by decide +kernel⟩
theorem ok_law_led {f : Addr} {fd : FuncData} (D : Df K mg "_law_led" s__law_led ["_law_net_here", "_law_place", "_law_word_here"] f fd) : FnOk P w K mg base CX0 1 f fd ["_law_net_here", "_law_place", "_law_word_here"] (spZ P w K tb zEnd) := by
  refine zdef D sc__law_led (fun ds M Q E ⟨net, n, p, z, e, _⟩ => by rw [e]; rfl) fun A outer s E Γ ds Q' E' hP hw hK ht hr ⟨net, n, p, z, e, o, h0, h1, hW, q⟩ => ⟨_, (qss_cons (qs_for PassesOwn.never rfl (qi_str (qv 2)) (fun Γ2 eP ew eK et => by have hP := hP.trans eP.symm; have hw := hw.trans ew.symm; have hK := hK.trans eK.symm; have ht := ht.trans et.symm; exact ⟨(qg_name (i := 3) sc__law_led.nd rfl (Or.inl rfl)), (qss_one (qs_set (i := 1) sc__law_led.nd rfl (Or.inl rfl) (qe_ix (q_ix (K := K) rfl) (qe_ix (q_ix (K := K) rfl) (qv 0) (qv 1) (fun _ _ => rfl)) (qe_bm (K := K) rfl PySem.F.plainAttrs_str PySem.F.slot_str_index PySem.F.type_str_index q_indexS qe_str (qa_cons (qv 3) qa_nil)) (fun _ _ => rfl))))⟩))
    (qss_one (qs_ret (qv 1)))), ?_⟩
  subst e
  simp only [zVar, zC, zOp, zII, zIC, zEq, zNe, scalZ, zIs, zIsN, isNonD, zSS, zTest, zBool, zChain, zAnd, zOr, zNot, zAndV, zOrV, zNotV, zIfE, zNil, zCons, zTup, zLst, zLstP, zCB, z1, zLenD, z2I, zAbs, zDivmod, zInt, zList, zListP, zTuple, zSorted, zSet, zLenS, intsM, itemsM, zIsInst, isD, zBM, tyZ, zAppend, zExtend, zPop, zPopAt, zIndexS, zCount, zSum, zReverse, zSetI, zgSub, zNext, zSeq, zDrop, zRet, zRetN, zIfS, zgName, zgNil, zgCons, zgTup, zAsg, zFor, zForM, zComp, zCompP, zTupG, zAll, zSetC, zBlock, zCall, zTry, zRaise, zIsE, zstart, zEndsOf, ziTup, ziLst, ziStr, ziRng1, ziRng2, ziEnumK, ziZip, seqK, zoNone, zoSome, zSl, zSlT, zSlS, zSlL, zIx, zRangeT, zRangeL, zRangeP, zNeg, zTruth, truD, zCatT, zNoIf, zInI, zAllB, zGetR, zDIn, zMGet, lookD, nowK, keyD, zDNewK, zDNewT, zDisp1K, zDisp1T, zDPut, zLenK, zLenT, zRepT, zMulS, zCallL, List.getElem?_cons_zero, List.getElem?_cons_succ, List.map_cons, List.map_nil, List.nil_append, List.cons_append, List.length_cons, List.length_nil, List.replicate_succ, List.replicate_zero, List.set_cons_zero, List.set_cons_succ, Option.join_some, Nat.reduceAdd, Nat.reduceSub, Nat.sub_self, Nat.zero_add, if_true, if_false, Bool.false_eq_true, Bool.not_true, Bool.not_false, true_and, and_true, beq_self_eq_true, String.reduceBEq, zLoop, List.length_map, List.length_set, updM_same, updM_updM, List.append_nil, Int.zero_add, Int.toNat_natCast, rangeD_len, pairsD_len, numD_len, Nat.min_self, atI_zero, decide_true, decide_false, Bool.not_eq_true, bne_self_eq_false]
  refine zloop_inv (fun i ρ M => (∃ x, ρ = [some (eN net), some (.int (endI net p (z.cps.toList.take i))), some (.str z), x]) ∧ M = Γ.M0) ⟨⟨_, rfl⟩, rfl⟩ (fun i d ρ M N hd ⟨⟨x, e⟩, eM⟩ hN => ?_) (fun ρ M ⟨⟨x, e⟩, eM⟩ => ?_)
  · subst e eM
    obtain ⟨c, hc, rfl⟩ := signsD_at hd
    obtain ⟨k, hk, rfl⟩ := hW c (List.mem_of_getElem? hc)
    obtain ⟨a0, a1⟩ := end_ok o (z.cps.toList.take i) h0 h1 fun c hc => hW c (List.mem_of_mem_take hc)
    obtain ⟨_, r, hr1, hr2⟩ := step_at o a0 a1 hk
    obtain ⟨rest, hi⟩ := occ_abc (show k < 3 by have := o.wid; omega)
    simp only [zVar, zC, zOp, zII, zIC, zEq, zNe, scalZ, zIs, zIsN, isNonD, zSS, zTest, zBool, zChain, zAnd, zOr, zNot, zAndV, zOrV, zNotV, zIfE, zNil, zCons, zTup, zLst, zLstP, zCB, z1, zLenD, z2I, zAbs, zDivmod, zInt, zList, zListP, zTuple, zSorted, zSet, zLenS, intsM, itemsM, zIsInst, isD, zBM, tyZ, zAppend, zExtend, zPop, zPopAt, zIndexS, zCount, zSum, zReverse, zSetI, zgSub, zNext, zSeq, zDrop, zRet, zRetN, zIfS, zgName, zgNil, zgCons, zgTup, zAsg, zFor, zForM, zComp, zCompP, zTupG, zAll, zSetC, zBlock, zCall, zTry, zRaise, zIsE, zstart, zEndsOf, ziTup, ziLst, ziStr, ziRng1, ziRng2, ziEnumK, ziZip, seqK, zoNone, zoSome, zSl, zSlT, zSlS, zSlL, zIx, zRangeT, zRangeL, zRangeP, zNeg, zTruth, truD, zCatT, zNoIf, zInI, zAllB, zGetR, zDIn, zMGet, lookD, nowK, keyD, zDNewK, zDNewT, zDisp1K, zDisp1T, zDPut, zLenK, zLenT, zRepT, zMulS, zCallL, List.getElem?_cons_zero, List.getElem?_cons_succ, List.map_cons, List.map_nil, List.nil_append, List.cons_append, List.length_cons, List.length_nil, List.replicate_succ, List.replicate_zero, List.set_cons_zero, List.set_cons_succ, Option.join_some, Nat.reduceAdd, Nat.reduceSub, Nat.sub_self, Nat.zero_add, if_true, if_false, Bool.false_eq_true, Bool.not_true, Bool.not_false, true_and, and_true, beq_self_eq_true, String.reduceBEq, zLoop, List.length_map, List.length_set, updM_same, updM_updM, List.append_nil, Int.zero_add, Int.toNat_natCast, rangeD_len, pairsD_len, numD_len, Nat.min_self, atI_zero, decide_true, decide_false, Bool.not_eq_true, bne_self_eq_false, hr1, hi, hr2, eN, eI]
    exact hN _ _ ⟨⟨_, by rw [endI_take hc]⟩, rfl⟩
  · subst e eM
    have : z.cps.toList.take (signsD z).length = z.cps.toList := by unfold signsD; rw [List.length_map, List.take_length]
    rw [this]
    exact .inl q
theorem WordOf.app {n : Nat} {y z : Str} (hy : WordOf n y) (hz : WordOf n z) : WordOf n (y ++ z) := fun c hc => by
  rw [show (y ++ z).cps = y.cps ++ z.cps from rfl, Array.toList_append, List.mem_append] at hc
  exact hc.elim (hy c) (hz c)
theorem wordOf_nil {n : Nat} : WordOf n "" := fun c hc => by rw [show ("" : Str).cps.toList = [] from by decide +kernel] at hc; cases hc
theorem wordOf_one {n k : Nat} (h : k < n) : WordOf n ⟨#[97 + k]⟩ := fun c hc => ⟨k, h, by simpa using hc⟩
def zWordL : ZSp := fun ds M Q _ => ∃ (b : Addr) (net : List (List Int)) (n most : Nat), ds = [.ptr b, eN net, .int (most : Nat)] ∧ M b = some .bag ∧ NetOk net n ∧ most ≤ 100 ∧ ∀ z : Str, z.length ≤ most → WordOf n z → Q (.str z) M
theorem ok_law_word {f f1 : Addr} {fd fd1 : FuncData} (D : Df K mg "_law_word" s__law_word ["_law_bag_here", "_law_net_here", "_law_most"] f fd)
    (D__law_take : Df K mg "_law_take" s__law_take ["_law_bag_here", "_law_many"] f1 fd1) (G__law_take : FnOk P w K mg base CX0 1 f1 fd1 ["_law_bag_here", "_law_many"] (spZ P w K tb zTake)) (bl : Bl mg) :
    FnOk P w K mg base CX0 2 f fd ["_law_bag_here", "_law_net_here", "_law_most"] (spZ P w K tb zWordL) := by
  refine zdef D sc__law_word (fun ds M Q E ⟨b, net, n, most, e, _⟩ => by rw [e]; rfl) fun A outer s E Γ ds Q' E' hP hw hK ht hr ⟨b, net, n, most, e, hb, o, hm, q⟩ => ⟨_, (qss_cons (qs_set (i := 3) sc__law_word.nd rfl (Or.inl rfl) qe_str)
    (qss_cons (qs_for PassesOwn.never rfl (qi_range1 rfl bl.range_ (qa_cons (qe_call G__law_take (hr.mono (by decide)) rfl D__law_take.mg D__law_take.fn.kp D__law_take.bd pass0 hP hw hK ht XR.none (qa_cons (qv 0) (qa_cons (qe_op q_add (qv 2) qe_int) qa_nil))) qa_nil)) (fun Γ2 eP ew eK et => by have hP := hP.trans eP.symm; have hw := hw.trans ew.symm; have hK := hK.trans eK.symm; have ht := ht.trans et.symm; exact ⟨(qg_name (i := 4) sc__law_word.nd rfl (Or.inl rfl)), (qss_one (qs_set (i := 3) sc__law_word.nd rfl (Or.inl rfl) (qe_op q_add_str (qv 3) (qe_ix (q_ix (K := K) rfl) qe_str (qe_call G__law_take (hr.mono (by decide)) rfl D__law_take.mg D__law_take.fn.kp D__law_take.bd pass0 hP hw hK ht XR.none (qa_cons (qv 0) (qa_cons (qe_callB (q_len (K := K) rfl hK) rfl bl.len_ PySem.boot_len (qa_cons (qe_ix (q_ix (K := K) rfl) (qv 1) qe_int (fun _ _ => rfl)) qa_nil)) qa_nil))) (fun _ _ => rfl)))))⟩))
    (qss_one (qs_ret (qv 3))))), ?_⟩
  subst e
  obtain ⟨r, h0, hl⟩ := net_at0 o
  have big : (200 : Nat) < sizeLine := by decide
  simp only [zVar, zC, zOp, zII, zIC, zEq, zNe, scalZ, zIs, zIsN, isNonD, zSS, zTest, zBool, zChain, zAnd, zOr, zNot, zAndV, zOrV, zNotV, zIfE, zNil, zCons, zTup, zLst, zLstP, zCB, z1, zLenD, z2I, zAbs, zDivmod, zInt, zList, zListP, zTuple, zSorted, zSet, zLenS, intsM, itemsM, zIsInst, isD, zBM, tyZ, zAppend, zExtend, zPop, zPopAt, zIndexS, zCount, zSum, zReverse, zSetI, zgSub, zNext, zSeq, zDrop, zRet, zRetN, zIfS, zgName, zgNil, zgCons, zgTup, zAsg, zFor, zForM, zComp, zCompP, zTupG, zAll, zSetC, zBlock, zCall, zTry, zRaise, zIsE, zstart, zEndsOf, ziTup, ziLst, ziStr, ziRng1, ziRng2, ziEnumK, ziZip, seqK, zoNone, zoSome, zSl, zSlT, zSlS, zSlL, zIx, zRangeT, zRangeL, zRangeP, zNeg, zTruth, truD, zCatT, zNoIf, zInI, zAllB, zGetR, zDIn, zMGet, lookD, nowK, keyD, zDNewK, zDNewT, zDisp1K, zDisp1T, zDPut, zLenK, zLenT, zRepT, zMulS, zCallL, List.getElem?_cons_zero, List.getElem?_cons_succ, List.map_cons, List.map_nil, List.nil_append, List.cons_append, List.length_cons, List.length_nil, List.replicate_succ, List.replicate_zero, List.set_cons_zero, List.set_cons_succ, Option.join_some, Nat.reduceAdd, Nat.reduceSub, Nat.sub_self, Nat.zero_add, if_true, if_false, Bool.false_eq_true, Bool.not_true, Bool.not_false, true_and, and_true, beq_self_eq_true, String.reduceBEq, zLoop, List.length_map, List.length_set, updM_same, updM_updM, List.append_nil, Int.zero_add, Int.toNat_natCast, rangeD_len, pairsD_len, numD_len, Nat.min_self, atI_zero, decide_true, decide_false, Bool.not_eq_true, bne_self_eq_false]
  refine ⟨b, (most : Int) + 1, rfl, hb, by omega, by omega, fun d hd => ?_⟩
  refine ⟨by omega, by omega, ?_⟩
  simp only [zVar, zC, zOp, zII, zIC, zEq, zNe, scalZ, zIs, zIsN, isNonD, zSS, zTest, zBool, zChain, zAnd, zOr, zNot, zAndV, zOrV, zNotV, zIfE, zNil, zCons, zTup, zLst, zLstP, zCB, z1, zLenD, z2I, zAbs, zDivmod, zInt, zList, zListP, zTuple, zSorted, zSet, zLenS, intsM, itemsM, zIsInst, isD, zBM, tyZ, zAppend, zExtend, zPop, zPopAt, zIndexS, zCount, zSum, zReverse, zSetI, zgSub, zNext, zSeq, zDrop, zRet, zRetN, zIfS, zgName, zgNil, zgCons, zgTup, zAsg, zFor, zForM, zComp, zCompP, zTupG, zAll, zSetC, zBlock, zCall, zTry, zRaise, zIsE, zstart, zEndsOf, ziTup, ziLst, ziStr, ziRng1, ziRng2, ziEnumK, ziZip, seqK, zoNone, zoSome, zSl, zSlT, zSlS, zSlL, zIx, zRangeT, zRangeL, zRangeP, zNeg, zTruth, truD, zCatT, zNoIf, zInI, zAllB, zGetR, zDIn, zMGet, lookD, nowK, keyD, zDNewK, zDNewT, zDisp1K, zDisp1T, zDPut, zLenK, zLenT, zRepT, zMulS, zCallL, List.getElem?_cons_zero, List.getElem?_cons_succ, List.map_cons, List.map_nil, List.nil_append, List.cons_append, List.length_cons, List.length_nil, List.replicate_succ, List.replicate_zero, List.set_cons_zero, List.set_cons_succ, Option.join_some, Nat.reduceAdd, Nat.reduceSub, Nat.sub_self, Nat.zero_add, if_true, if_false, Bool.false_eq_true, Bool.not_true, Bool.not_false, true_and, and_true, beq_self_eq_true, String.reduceBEq, zLoop, List.length_map, List.length_set, updM_same, updM_updM, List.append_nil, Int.zero_add, Int.toNat_natCast, rangeD_len, pairsD_len, numD_len, Nat.min_self, atI_zero, decide_true, decide_false, Bool.not_eq_true, bne_self_eq_false]
  refine zloop_inv (fun i ρ M => (∃ x z, ρ = [some (.ptr b), some (eN net), some (.int (most : Nat)), some (.str z), x] ∧ z.length ≤ i ∧ WordOf n z) ∧ M = Γ.M0) ⟨⟨_, "", rfl, Nat.le_refl _, wordOf_nil⟩, rfl⟩ (fun i d ρ M N hd ⟨⟨x, z, e, hz, hW⟩, eM⟩ hN => ?_) (fun ρ M ⟨⟨x, z, e, hz, hW⟩, eM⟩ => ?_)
  · subst e eM
    obtain ⟨rfl, hi⟩ := rangeD_at hd
    have hw3 := o.wid
    simp only [zVar, zC, zOp, zII, zIC, zEq, zNe, scalZ, zIs, zIsN, isNonD, zSS, zTest, zBool, zChain, zAnd, zOr, zNot, zAndV, zOrV, zNotV, zIfE, zNil, zCons, zTup, zLst, zLstP, zCB, z1, zLenD, z2I, zAbs, zDivmod, zInt, zList, zListP, zTuple, zSorted, zSet, zLenS, intsM, itemsM, zIsInst, isD, zBM, tyZ, zAppend, zExtend, zPop, zPopAt, zIndexS, zCount, zSum, zReverse, zSetI, zgSub, zNext, zSeq, zDrop, zRet, zRetN, zIfS, zgName, zgNil, zgCons, zgTup, zAsg, zFor, zForM, zComp, zCompP, zTupG, zAll, zSetC, zBlock, zCall, zTry, zRaise, zIsE, zstart, zEndsOf, ziTup, ziLst, ziStr, ziRng1, ziRng2, ziEnumK, ziZip, seqK, zoNone, zoSome, zSl, zSlT, zSlS, zSlL, zIx, zRangeT, zRangeL, zRangeP, zNeg, zTruth, truD, zCatT, zNoIf, zInI, zAllB, zGetR, zDIn, zMGet, lookD, nowK, keyD, zDNewK, zDNewT, zDisp1K, zDisp1T, zDPut, zLenK, zLenT, zRepT, zMulS, zCallL, List.getElem?_cons_zero, List.getElem?_cons_succ, List.map_cons, List.map_nil, List.nil_append, List.cons_append, List.length_cons, List.length_nil, List.replicate_succ, List.replicate_zero, List.set_cons_zero, List.set_cons_succ, Option.join_some, Nat.reduceAdd, Nat.reduceSub, Nat.sub_self, Nat.zero_add, if_true, if_false, Bool.false_eq_true, Bool.not_true, Bool.not_false, true_and, and_true, beq_self_eq_true, String.reduceBEq, zLoop, List.length_map, List.length_set, updM_same, updM_updM, List.append_nil, Int.zero_add, Int.toNat_natCast, rangeD_len, pairsD_len, numD_len, Nat.min_self, atI_zero, decide_true, decide_false, Bool.not_eq_true, bne_self_eq_false, h0, hl, eN, eI]
    refine ⟨b, n, rfl, hb, by omega, by omega, fun k hk => ?_⟩
    simp only [zVar, zC, zOp, zII, zIC, zEq, zNe, scalZ, zIs, zIsN, isNonD, zSS, zTest, zBool, zChain, zAnd, zOr, zNot, zAndV, zOrV, zNotV, zIfE, zNil, zCons, zTup, zLst, zLstP, zCB, z1, zLenD, z2I, zAbs, zDivmod, zInt, zList, zListP, zTuple, zSorted, zSet, zLenS, intsM, itemsM, zIsInst, isD, zBM, tyZ, zAppend, zExtend, zPop, zPopAt, zIndexS, zCount, zSum, zReverse, zSetI, zgSub, zNext, zSeq, zDrop, zRet, zRetN, zIfS, zgName, zgNil, zgCons, zgTup, zAsg, zFor, zForM, zComp, zCompP, zTupG, zAll, zSetC, zBlock, zCall, zTry, zRaise, zIsE, zstart, zEndsOf, ziTup, ziLst, ziStr, ziRng1, ziRng2, ziEnumK, ziZip, seqK, zoNone, zoSome, zSl, zSlT, zSlS, zSlL, zIx, zRangeT, zRangeL, zRangeP, zNeg, zTruth, truD, zCatT, zNoIf, zInI, zAllB, zGetR, zDIn, zMGet, lookD, nowK, keyD, zDNewK, zDNewT, zDisp1K, zDisp1T, zDPut, zLenK, zLenT, zRepT, zMulS, zCallL, List.getElem?_cons_zero, List.getElem?_cons_succ, List.map_cons, List.map_nil, List.nil_append, List.cons_append, List.length_cons, List.length_nil, List.replicate_succ, List.replicate_zero, List.set_cons_zero, List.set_cons_succ, Option.join_some, Nat.reduceAdd, Nat.reduceSub, Nat.sub_self, Nat.zero_add, if_true, if_false, Bool.false_eq_true, Bool.not_true, Bool.not_false, true_and, and_true, beq_self_eq_true, String.reduceBEq, zLoop, List.length_map, List.length_set, updM_same, updM_updM, List.append_nil, Int.zero_add, Int.toNat_natCast, rangeD_len, pairsD_len, numD_len, Nat.min_self, atI_zero, decide_true, decide_false, Bool.not_eq_true, bne_self_eq_false, abc_atW (show k < 3 by omega)]
    refine ⟨by decide, ?_, hN _ _ ⟨⟨_, _, rfl, ?_, hW.app (wordOf_one (by omega))⟩, rfl⟩⟩
    · show z.length + 1 ≤ sizeLine
      omega
    · rw [strlen_app]; show z.length + 1 ≤ i + 1; omega
  · subst e eM
    rw [rangeD_len] at hz
    exact .inl (q z (by omega) hW)
theorem dts_said (S : Nat → List Int) (l : List Nat) : dtsOf (l.map fun k => lI' (S k)) = some (l.map fun k => Dt.lst ((S k).map Dt.int)) := by
  induction l with
  | nil => rfl
  | cons k l ih => rw [List.map_cons, dtsOf, ih]; simp only [lI', dtOf, dts_ints, Option.map_some]; rfl
theorem eq_said (a b : List Int) : eqD (.lst (a.map Dt.int)) (.lst (b.map Dt.int)) = decide (a = b) := by rw [eqD, eqDs_ints']
theorem any_said (S : Nat → List Int) (i : Nat) (l : List Int) : (((List.range i).map fun k => Dt.lst ((S k).map Dt.int)).any fun t => eqD t (.lst (l.map Dt.int))) = true ↔ ∃ j, j < i ∧ S j = l := by
  rw [List.any_eq_true]
  constructor
  · rintro ⟨t, ht, h⟩
    obtain ⟨j, hj, rfl⟩ := List.mem_map.mp ht
    rw [eq_said] at h
    exact ⟨j, List.mem_range.mp hj, of_decide_eq_true h⟩
  · rintro ⟨j, hj, rfl⟩
    exact ⟨_, List.mem_map.mpr ⟨j, List.mem_range.mpr hj, rfl⟩, by rw [eq_said]; exact decide_eq_true rfl⟩
theorem dp_said (S : Nat → List Int) (i : Nat) : ∀ t ∈ (List.range i).map fun k => Dt.lst ((S k).map Dt.int), dpD t ≤ 60 := fun t ht => by
  obtain ⟨j, _, rfl⟩ := List.mem_map.mp ht
  rw [dpD]; have := dp_ints (S j); omega
theorem first_said {S : Nat → List Int} {i j : Nat} (h : RndOk S i j) : FirstAt ((List.range i).map fun k => Dt.lst ((S k).map Dt.int)) (.lst ((S i).map Dt.int)) j := by
  obtain ⟨h1, h2, h3⟩ := h
  refine ⟨⟨_, by rw [List.getElem?_map, List.getElem?_range h1]; rfl, by rw [eq_said, h2]; exact decide_eq_true rfl⟩, fun m t hm ht => ?_⟩
  rw [List.getElem?_map, List.getElem?_range (by omega)] at ht
  cases ht
  rw [eq_said, h2]
  exact decide_eq_false (h3 m j hm h1)
def zDue : ZSp := fun ds M Q _ => ∃ net n z, ds = [eN net, .str z] ∧ NetOk net n ∧ WordOf n z ∧ ∀ i j, RndOk (saidI (mapI net z)) i j → Q (rndD i j) M
theorem ok_law_due {f f1 : Addr} {fd fd1 : FuncData} (D : Df K mg "_law_due" s__law_due ["_law_net_here", "_law_word_here"] f fd)
    (D__law_led : Df K mg "_law_led" s__law_led ["_law_net_here", "_law_place", "_law_word_here"] f1 fd1) (bl : Bl mg) :
    FnOk P w K mg base CX0 2 f fd ["_law_net_here", "_law_word_here"] (spZ P w K tb zDue) := by
  have G__law_led := ok_law_led (P := P) (w := w) (base := base) (tb := tb) D__law_led
  refine zdef D sc__law_due (fun ds M Q E ⟨net, n, z, e, _⟩ => by rw [e]; rfl) fun A outer s E Γ ds Q' E' hP hw hK ht hr ⟨net, n, z, e, o, hW, q⟩ => ⟨_, (qss_cons (qs_set (i := 2) sc__law_due.nd rfl (Or.inr rfl) (qe_listcomp (N' := ["_law_place", "_law_net_here", "_law_word_here"]) (tn := 1) (idx := [0, 1]) rfl (show BlockOk ["_law_net_here", "_law_word_here", "_law_step", "_law_here", "_law_met"] (defScope s__law_due) _ ["_law_place", "_law_net_here", "_law_word_here"] 1 [0, 1] from by decide +kernel) (qi_range1 rfl bl.range_ (qa_cons (qe_callB (q_len (K := K) rfl hK) rfl bl.len_ PySem.boot_len (qa_cons (qv 0) qa_nil)) qa_nil)) (fun _ _ _ _ _ => (qg_name (i := 0) (show List.Nodup [("_law_place" : Str), ("_law_net_here" : Str), ("_law_word_here" : Str)] from by decide +kernel) rfl (Or.inl rfl))) (fun _ _ _ _ _ => qif_nil) (fun _ _ _ _ _ => (qe_call G__law_led (hr.mono (by decide)) rfl D__law_led.mg D__law_led.fn.kp D__law_led.bd pass0 hP hw hK ht XR.none (qa_cons (qv 1) (qa_cons (qv 0) (qa_cons (qv 2) qa_nil)))))))
    (qss_cons (qs_set (i := 3) sc__law_due.nd rfl (Or.inl rfl) (qe_listrange rfl rfl bl.list_ rfl bl.range_ (qe_callB (q_len (K := K) rfl hK) rfl bl.len_ PySem.boot_len (qa_cons (qv 0) qa_nil))))
    (qss_cons (qs_set (i := 4) sc__law_due.nd rfl (Or.inl rfl) (qe_lstP qa_nil))
    (qss_cons (qs_while PassesOwn.never (qt_cmpR (q_notInD hr.units) (qv 3) (qv 4) (by rfl))
      (qss_cons (qs_expr (qe_bm (K := K) rfl PySem.F.plainAttrs_list PySem.F.slot_list_append PySem.F.type_list_append q_append (qv 4) (qa_cons (qv 3) qa_nil)))
    (qss_one (qs_setcomp (i := 3) sc__law_due.nd rfl rfl (N' := ["_law_place", "_law_step"]) (tn := 1) (idx := [2]) rfl (show BlockOk ["_law_net_here", "_law_word_here", "_law_step", "_law_here", "_law_met"] (defScope s__law_due) _ ["_law_place", "_law_step"] 1 [2] from by decide +kernel) (qi_list (K := K) rfl (qv 3)) (fun _ _ _ _ _ => (qg_name (i := 0) (show List.Nodup [("_law_place" : Str), ("_law_step" : Str)] from by decide +kernel) rfl (Or.inl rfl))) (fun _ _ _ _ _ => qif_nil) (fun _ _ _ _ _ => (qe_ix (q_ix (K := K) rfl) (qv 1) (qv 0) (fun _ _ => rfl)))))))
    (qss_one (qs_ret (qe_tup (qa_cons (qe_bm (K := K) rfl PySem.F.plainAttrs_list PySem.F.slot_list_index PySem.F.type_list_index (q_indexD hr.units) (qv 4) (qa_cons (qv 3) qa_nil)) (qa_cons (qe_op q_sub (qe_callB (q_len (K := K) rfl hK) rfl bl.len_ PySem.boot_len (qa_cons (qv 4) qa_nil)) (qe_bm (K := K) rfl PySem.F.plainAttrs_list PySem.F.slot_list_index PySem.F.type_list_index (q_indexD hr.units) (qv 4) (qa_cons (qv 3) qa_nil))) qa_nil))))))))), ?_⟩
  subst e
  have h9 := o.nine
  have ml := mapI_len net z
  have oo := mapI_ok o hW
  have big : (2530 : Nat) < sizeLine := by decide
  simp only [zVar, zC, zOp, zII, zIC, zEq, zNe, scalZ, zIs, zIsN, isNonD, zSS, zTest, zBool, zChain, zAnd, zOr, zNot, zAndV, zOrV, zNotV, zIfE, zNil, zCons, zTup, zLst, zLstP, zCB, z1, zLenD, z2I, zAbs, zDivmod, zInt, zList, zListP, zTuple, zSorted, zSet, zLenS, intsM, itemsM, zIsInst, isD, zBM, tyZ, zAppend, zExtend, zPop, zPopAt, zIndexS, zCount, zSum, zReverse, zSetI, zgSub, zNext, zSeq, zDrop, zRet, zRetN, zIfS, zgName, zgNil, zgCons, zgTup, zAsg, zFor, zForM, zComp, zCompP, zTupG, zAll, zSetC, zBlock, zCall, zTry, zRaise, zIsE, zstart, zEndsOf, ziTup, ziLst, ziStr, ziRng1, ziRng2, ziEnumK, ziZip, seqK, zoNone, zoSome, zSl, zSlT, zSlS, zSlL, zIx, zRangeT, zRangeL, zRangeP, zNeg, zTruth, truD, zCatT, zNoIf, zInI, zAllB, zGetR, zDIn, zMGet, lookD, nowK, keyD, zDNewK, zDNewT, zDisp1K, zDisp1T, zDPut, zLenK, zLenT, zRepT, zMulS, zCallL, List.getElem?_cons_zero, List.getElem?_cons_succ, List.map_cons, List.map_nil, List.nil_append, List.cons_append, List.length_cons, List.length_nil, List.replicate_succ, List.replicate_zero, List.set_cons_zero, List.set_cons_succ, Option.join_some, Nat.reduceAdd, Nat.reduceSub, Nat.sub_self, Nat.zero_add, if_true, if_false, Bool.false_eq_true, Bool.not_true, Bool.not_false, true_and, and_true, beq_self_eq_true, String.reduceBEq, zLoop, List.length_map, List.length_set, updM_same, updM_updM, List.append_nil, Int.zero_add, Int.toNat_natCast, rangeD_len, pairsD_len, numD_len, Nat.min_self, atI_zero, decide_true, decide_false, Bool.not_eq_true, bne_self_eq_false, eN]
  refine ⟨by omega, by omega, Nat.lt_of_le_of_lt h9 (by decide), ?_⟩
  refine zmap_of (fun d => match d with | .int p => Dv.int (endI net p z.cps.toList) | d => d) (fun τ M => (∃ x, τ = [x, some (eN net), some (.str z)]) ∧ M = Γ.M0) ⟨⟨_, rfl⟩, rfl⟩ (fun d hd τ M ⟨⟨x, e⟩, eM⟩ R hR => ?_) (fun τ M ⟨⟨x, e⟩, eM⟩ => ?_)
  · subst e eM
    obtain ⟨i, hi⟩ := List.mem_iff_getElem?.mp hd
    obtain ⟨rfl, hlt⟩ := rangeD_at hi
    refine ⟨net, n, _, z, rfl, o, by omega, by omega, hW, hR _ _ ⟨⟨_, rfl⟩, rfl⟩⟩
  · subst e eM
    have e : (rangeD 0 net.length).map (fun d => match d with | .int p => Dv.int (endI net p z.cps.toList) | d => d) = (mapI net z).map Dv.int := by
      unfold rangeD mapI rangeI
      rw [List.map_map, List.map_map, List.map_map]
      refine List.map_congr_left fun p _ => ?_
      simp only [Function.comp, Int.zero_add]
    rw [e]
    obtain ⟨once, ho⟩ : ∃ once, once = mapI net z := ⟨_, rfl⟩
    rw [← ho] at q ml oo ⊢
    have e0 : Dv.lst (numD net.length) = lI' (saidI once 0) := by
      show Dv.lst _ = Dv.lst ((rangeI once.length).map Dv.int)
      unfold numD rangeI
      rw [List.map_map, ml]; rfl
    refine ⟨by omega, by omega, ?_⟩
    rw [e0]
    refine ⟨by decide, fun a ha => ?_⟩
    refine ⟨fun m ρ M => ∃ i, m = 2530 - i ∧ ρ = [some (eN net), some (.str z), some (lI' once), some (lI' (saidI once i)), some (.ptr a)] ∧ M a = some (.lst ((List.range i).map fun k => lI' (saidI once k))) ∧ Keeps Γ.M0 M ∧ ∀ x y, x < y → y < i → saidI once x ≠ saidI once y, ⟨_, 0, rfl, rfl, updM_same, .upd ha .refl, fun x y _ h => by omega⟩, ?_⟩
    rintro m ρ M ⟨i, rfl, rfl, hMa, hk, hd⟩
    have hi := said_bound oo (by omega) hd
    simp only [zVar, zC, zOp, zII, zIC, zEq, zNe, scalZ, zIs, zIsN, isNonD, zSS, zTest, zBool, zChain, zAnd, zOr, zNot, zAndV, zOrV, zNotV, zIfE, zNil, zCons, zTup, zLst, zLstP, zCB, z1, zLenD, z2I, zAbs, zDivmod, zInt, zList, zListP, zTuple, zSorted, zSet, zLenS, intsM, itemsM, zIsInst, isD, zBM, tyZ, zAppend, zExtend, zPop, zPopAt, zIndexS, zCount, zSum, zReverse, zSetI, zgSub, zNext, zSeq, zDrop, zRet, zRetN, zIfS, zgName, zgNil, zgCons, zgTup, zAsg, zFor, zForM, zComp, zCompP, zTupG, zAll, zSetC, zBlock, zCall, zTry, zRaise, zIsE, zstart, zEndsOf, ziTup, ziLst, ziStr, ziRng1, ziRng2, ziEnumK, ziZip, seqK, zoNone, zoSome, zSl, zSlT, zSlS, zSlL, zIx, zRangeT, zRangeL, zRangeP, zNeg, zTruth, truD, zCatT, zNoIf, zInI, zAllB, zGetR, zDIn, zMGet, lookD, nowK, keyD, zDNewK, zDNewT, zDisp1K, zDisp1T, zDPut, zLenK, zLenT, zRepT, zMulS, zCallL, List.getElem?_cons_zero, List.getElem?_cons_succ, List.map_cons, List.map_nil, List.nil_append, List.cons_append, List.length_cons, List.length_nil, List.replicate_succ, List.replicate_zero, List.set_cons_zero, List.set_cons_succ, Option.join_some, Nat.reduceAdd, Nat.reduceSub, Nat.sub_self, Nat.zero_add, if_true, if_false, Bool.false_eq_true, Bool.not_true, Bool.not_false, true_and, and_true, beq_self_eq_true, String.reduceBEq, zLoop, List.length_map, List.length_set, updM_same, updM_updM, List.append_nil, Int.zero_add, Int.toNat_natCast, rangeD_len, pairsD_len, numD_len, Nat.min_self, atI_zero, decide_true, decide_false, Bool.not_eq_true, bne_self_eq_false, zInD, now, hMa, dts_said, lI', dtOf, dts_ints, Option.map_some]
    refine ⟨dp_said (saidI once) i, ifB (fun h => ?_) (fun h => ?_)⟩
    · have hn : ¬ ∃ j, j < i ∧ saidI once j = saidI once i := fun z => by
        have h2 := (any_said _ _ _).mpr z
        rw [h2] at h; cases h
      have hd2 := new_said hd hn
      have hi2 := said_bound oo (by omega) hd2
      refine ⟨by simp only [List.length_range]; omega, ?_⟩
      refine ⟨by rw [said_len]; omega, ?_⟩
      refine zmap_of (onceD once) (fun τ M' => (∃ x, τ = [x, some (lI' once)]) ∧ M' = updM M a (.lst ((List.range i).map (fun k => lI' (saidI once k)) ++ [lI' (saidI once i)]))) ⟨⟨_, rfl⟩, rfl⟩ (fun d hd τ M' ⟨⟨x, e⟩, eM⟩ R hR => ?_) (fun τ M' ⟨⟨x, e⟩, eM⟩ => ?_)
      · subst e eM
        obtain ⟨p, hp, rfl⟩ := List.mem_map.mp hd
        obtain ⟨p0, p1⟩ := said_ok oo i p hp
        have := once_atD oo p0 p1
        simp only [zVar, zC, zOp, zII, zIC, zEq, zNe, scalZ, zIs, zIsN, isNonD, zSS, zTest, zBool, zChain, zAnd, zOr, zNot, zAndV, zOrV, zNotV, zIfE, zNil, zCons, zTup, zLst, zLstP, zCB, z1, zLenD, z2I, zAbs, zDivmod, zInt, zList, zListP, zTuple, zSorted, zSet, zLenS, intsM, itemsM, zIsInst, isD, zBM, tyZ, zAppend, zExtend, zPop, zPopAt, zIndexS, zCount, zSum, zReverse, zSetI, zgSub, zNext, zSeq, zDrop, zRet, zRetN, zIfS, zgName, zgNil, zgCons, zgTup, zAsg, zFor, zForM, zComp, zCompP, zTupG, zAll, zSetC, zBlock, zCall, zTry, zRaise, zIsE, zstart, zEndsOf, ziTup, ziLst, ziStr, ziRng1, ziRng2, ziEnumK, ziZip, seqK, zoNone, zoSome, zSl, zSlT, zSlS, zSlL, zIx, zRangeT, zRangeL, zRangeP, zNeg, zTruth, truD, zCatT, zNoIf, zInI, zAllB, zGetR, zDIn, zMGet, lookD, nowK, keyD, zDNewK, zDNewT, zDisp1K, zDisp1T, zDPut, zLenK, zLenT, zRepT, zMulS, zCallL, List.getElem?_cons_zero, List.getElem?_cons_succ, List.map_cons, List.map_nil, List.nil_append, List.cons_append, List.length_cons, List.length_nil, List.replicate_succ, List.replicate_zero, List.set_cons_zero, List.set_cons_succ, Option.join_some, Nat.reduceAdd, Nat.reduceSub, Nat.sub_self, Nat.zero_add, if_true, if_false, Bool.false_eq_true, Bool.not_true, Bool.not_false, true_and, and_true, beq_self_eq_true, String.reduceBEq, zLoop, List.length_map, List.length_set, updM_same, updM_updM, List.append_nil, Int.zero_add, Int.toNat_natCast, rangeD_len, pairsD_len, numD_len, Nat.min_self, atI_zero, decide_true, decide_false, Bool.not_eq_true, bne_self_eq_false, lI', this]
        exact hR _ _ ⟨⟨_, rfl⟩, rfl⟩
      · subst e eM
        rw [said_next]
        exact ⟨2530 - (i + 1), by omega, i + 1, rfl, rfl, by rw [updM_same, List.range_succ, List.map_append]; rfl, .upd ha hk, hd2⟩
    · have hex : ∃ j, j < i ∧ saidI once j = saidI once i := (any_said _ _ _).mp (by simpa only [Bool.not_eq_false'] using h)
      obtain ⟨j, hj, e⟩ := hex
      have R : RndOk (saidI once) i j := ⟨hj, e.symm, hd⟩
      simp only [zVar, zC, zOp, zII, zIC, zEq, zNe, scalZ, zIs, zIsN, isNonD, zSS, zTest, zBool, zChain, zAnd, zOr, zNot, zAndV, zOrV, zNotV, zIfE, zNil, zCons, zTup, zLst, zLstP, zCB, z1, zLenD, z2I, zAbs, zDivmod, zInt, zList, zListP, zTuple, zSorted, zSet, zLenS, intsM, itemsM, zIsInst, isD, zBM, tyZ, zAppend, zExtend, zPop, zPopAt, zIndexS, zCount, zSum, zReverse, zSetI, zgSub, zNext, zSeq, zDrop, zRet, zRetN, zIfS, zgName, zgNil, zgCons, zgTup, zAsg, zFor, zForM, zComp, zCompP, zTupG, zAll, zSetC, zBlock, zCall, zTry, zRaise, zIsE, zstart, zEndsOf, ziTup, ziLst, ziStr, ziRng1, ziRng2, ziEnumK, ziZip, seqK, zoNone, zoSome, zSl, zSlT, zSlS, zSlL, zIx, zRangeT, zRangeL, zRangeP, zNeg, zTruth, truD, zCatT, zNoIf, zInI, zAllB, zGetR, zDIn, zMGet, lookD, nowK, keyD, zDNewK, zDNewT, zDisp1K, zDisp1T, zDPut, zLenK, zLenT, zRepT, zMulS, zCallL, List.getElem?_cons_zero, List.getElem?_cons_succ, List.map_cons, List.map_nil, List.nil_append, List.cons_append, List.length_cons, List.length_nil, List.replicate_succ, List.replicate_zero, List.set_cons_zero, List.set_cons_succ, Option.join_some, Nat.reduceAdd, Nat.reduceSub, Nat.sub_self, Nat.zero_add, if_true, if_false, Bool.false_eq_true, Bool.not_true, Bool.not_false, true_and, and_true, beq_self_eq_true, String.reduceBEq, zLoop, List.length_map, List.length_set, updM_same, updM_updM, List.append_nil, Int.zero_add, Int.toNat_natCast, rangeD_len, pairsD_len, numD_len, Nat.min_self, atI_zero, decide_true, decide_false, Bool.not_eq_true, bne_self_eq_false, zIndexD, now, hMa, dts_said, lI', dtOf, dts_ints, Option.map_some]
      refine ⟨dp_said _ _, j, first_said R, by omega, ?_⟩
      refine ⟨dp_said _ _, j, first_said R, by omega, ?_⟩
      refine ⟨by decide, ?_⟩
      simp only [List.length_range]
      exact zfin_data hk (.tup fun d hd => by simp at hd; rcases hd with rfl | rfl <;> exact .int _) (q i j R)
end
end My

set_option Elab.async false
set_option maxRecDepth 100000
set_option maxHeartbeats 4000000
namespace My
open PySem L2 PyProof.Rows
section
variable {P : Program} {w : World} {K : PySem.W.Frag} {mg : Str → Option Value} {base : Heap} {tb : Tbs}
theorem sc__law_rings : FnScope ["_law_bag_here", "_law_ways", "_law_rows", "_law_size", "_law_start", "_law_k"] ["_law_bag_here", "_law_ways"] (defScope s__law_rings) := ⟨rfl, rfl, rfl, by decide +kernel, rfl, by decide +kernel, by decide +kernel⟩
def IntO (x : Option Dv) : Prop := x = none ∨ ∃ i : Int, x = some (.int i)
theorem IntO.pin {M : Mh} {x : Option Dv} {d : Dv} (h : IntO x) (e : x = some d) : Pin M d := by
  rcases h with rfl | ⟨i, rfl⟩
  · cases e
  · cases e; exact .int i
def madeI (n : Nat) (L : List Int) : List (List Int) := L.map fun p => List.replicate n p
theorem made_ok {n : Nat} {L : List Int} (hn : n = 2 ∨ n = 3) (h1 : 1 ≤ L.length) (h9 : L.length ≤ 9) (h : ∀ v ∈ L, 0 ≤ v ∧ v < (L.length : Nat)) : NetOk (madeI n L) n := by
  have hl : (madeI n L).length = L.length := by simp [madeI]
  refine ⟨by omega, by omega, hn, fun r hr => ?_⟩
  obtain ⟨p, hp, rfl⟩ := List.mem_map.mp hr
  refine ⟨List.length_replicate, fun g hg => ?_⟩
  rw [List.eq_of_mem_replicate hg, hl]
  exact h p hp
def zRings : ZSp := fun ds M Q _ => ∃ (b : Addr) (n : Nat), ds = [.ptr b, .int (n : Nat)] ∧ M b = some .bag ∧ (n = 2 ∨ n = 3) ∧ ∀ net, NetOk net n → Q (eN net) M
theorem ok_law_rings {f f1 : Addr} {fd fd1 : FuncData} (D : Df K mg "_law_rings" s__law_rings ["_law_bag_here", "_law_ways"] f fd)
    (D__law_take : Df K mg "_law_take" s__law_take ["_law_bag_here", "_law_many"] f1 fd1) (G__law_take : FnOk P w K mg base CX0 1 f1 fd1 ["_law_bag_here", "_law_many"] (spZ P w K tb zTake)) (bl : Bl mg) :
    FnOk P w K mg base CX0 2 f fd ["_law_bag_here", "_law_ways"] (spZ P w K tb zRings) := by
  refine zdef D sc__law_rings (fun ds M Q E ⟨b, n, e, _⟩ => by rw [e]; rfl) fun A outer s E Γ ds Q' E' hP hw hK ht hr ⟨b, n, e, hb, hn, q⟩ => ⟨_, (qss_cons (qs_set (i := 2) sc__law_rings.nd rfl (Or.inl rfl) (qe_lstP qa_nil))
    (qss_cons (qs_for PassesOwn.never rfl (qi_list (K := K) rfl (qe_lst (qa_cons (qe_op q_add qe_int (qe_call G__law_take (hr.mono (by decide)) rfl D__law_take.mg D__law_take.fn.kp D__law_take.bd pass0 hP hw hK ht XR.none (qa_cons (qv 0) (qa_cons qe_int qa_nil)))) (qa_cons (qe_op q_add qe_int (qe_call G__law_take (hr.mono (by decide)) rfl D__law_take.mg D__law_take.fn.kp D__law_take.bd pass0 hP hw hK ht XR.none (qa_cons (qv 0) (qa_cons qe_int qa_nil)))) qa_nil)))) (fun Γ2 eP ew eK et => by have hP := hP.trans eP.symm; have hw := hw.trans ew.symm; have hK := hK.trans eK.symm; have ht := ht.trans et.symm; exact ⟨(qg_name (i := 3) sc__law_rings.nd rfl (Or.inl rfl)), (qss_cons (qs_set (i := 4) sc__law_rings.nd rfl (Or.inl rfl) (qe_callB (q_len (K := K) rfl hK) rfl bl.len_ PySem.boot_len (qa_cons (qv 2) qa_nil)))
    (qss_one (qs_for PassesOwn.never rfl (qi_range1 rfl bl.range_ (qa_cons (qv 3) qa_nil)) (fun Γ2 eP ew eK et => by have hP := hP.trans eP.symm; have hw := hw.trans ew.symm; have hK := hK.trans eK.symm; have ht := ht.trans et.symm; exact ⟨(qg_name (i := 5) sc__law_rings.nd rfl (Or.inl rfl)), (qss_one (qs_expr (qe_bm (K := K) rfl PySem.F.plainAttrs_list PySem.F.slot_list_append PySem.F.type_list_append q_append (qv 2) (qa_cons (qe_op q_add (qv 4) (qe_op q_mod (qe_op q_add (qv 5) qe_int) (qv 3))) qa_nil))))⟩))))⟩))
    (qss_cons (qs_for PassesOwn.never rfl (qi_range1 rfl bl.range_ (qa_cons (qe_call G__law_take (hr.mono (by decide)) rfl D__law_take.mg D__law_take.fn.kp D__law_take.bd pass0 hP hw hK ht XR.none (qa_cons (qv 0) (qa_cons (qe_op q_sub qe_int (qe_callB (q_len (K := K) rfl hK) rfl bl.len_ PySem.boot_len (qa_cons (qv 2) qa_nil))) qa_nil))) qa_nil)) (fun Γ2 eP ew eK et => by have hP := hP.trans eP.symm; have hw := hw.trans ew.symm; have hK := hK.trans eK.symm; have ht := ht.trans et.symm; exact ⟨(qg_name (i := 5) sc__law_rings.nd rfl (Or.inl rfl)), (qss_one (qs_expr (qe_bm (K := K) rfl PySem.F.plainAttrs_list PySem.F.slot_list_append PySem.F.type_list_append q_append (qv 2) (qa_cons (qe_op q_sub (qe_callB (q_len (K := K) rfl hK) rfl bl.len_ PySem.boot_len (qa_cons (qv 2) qa_nil)) qe_int) qa_nil))))⟩))
    (qss_one (qs_frz 2 rfl (qs_ret (qe_callTy (q_tuple (K := K) rfl) rfl bl.tuple_ bt_tuple (qa_cons (qe_listcomp (N' := ["_law_place", "_law_ways"]) (tn := 1) (idx := [1]) rfl (show BlockOk ["_law_bag_here", "_law_ways", "_law_rows", "_law_size", "_law_start", "_law_k"] (defScope s__law_rings) _ ["_law_place", "_law_ways"] 1 [1] from by decide +kernel) (qi_list (K := K) rfl (qv 2)) (fun _ _ _ _ _ => (qg_name (i := 0) (show List.Nodup [("_law_place" : Str), ("_law_ways" : Str)] from by decide +kernel) rfl (Or.inl rfl))) (fun _ _ _ _ _ => qif_nil) (fun _ _ _ _ _ => (qe_op q_repT (qe_tup (qa_cons (qv 0) qa_nil)) (qv 1)))) qa_nil)))))))), ?_⟩
  subst e
  have big : (200 : Nat) < sizeLine := by decide
  simp only [zVar, zC, zOp, zII, zIC, zEq, zNe, scalZ, zIs, zIsN, isNonD, zSS, zTest, zBool, zChain, zAnd, zOr, zNot, zAndV, zOrV, zNotV, zIfE, zNil, zCons, zTup, zLst, zLstP, zCB, z1, zLenD, z2I, zAbs, zDivmod, zInt, zList, zListP, zTuple, zSorted, zSet, zLenS, intsM, itemsM, zIsInst, isD, zBM, tyZ, zAppend, zExtend, zPop, zPopAt, zIndexS, zCount, zSum, zReverse, zSetI, zgSub, zNext, zSeq, zDrop, zRet, zRetN, zIfS, zgName, zgNil, zgCons, zgTup, zAsg, zFor, zForM, zComp, zCompP, zTupG, zAll, zSetC, zBlock, zCall, zTry, zRaise, zIsE, zstart, zEndsOf, ziTup, ziLst, ziStr, ziRng1, ziRng2, ziEnumK, ziZip, seqK, zoNone, zoSome, zSl, zSlT, zSlS, zSlL, zIx, zRangeT, zRangeL, zRangeP, zNeg, zTruth, truD, zCatT, zNoIf, zInI, zAllB, zGetR, zDIn, zMGet, lookD, nowK, keyD, zDNewK, zDNewT, zDisp1K, zDisp1T, zDPut, zLenK, zLenT, zRepT, zMulS, zCallL, List.getElem?_cons_zero, List.getElem?_cons_succ, List.map_cons, List.map_nil, List.nil_append, List.cons_append, List.length_cons, List.length_nil, List.replicate_succ, List.replicate_zero, List.set_cons_zero, List.set_cons_succ, Option.join_some, Nat.reduceAdd, Nat.reduceSub, Nat.sub_self, Nat.zero_add, if_true, if_false, Bool.false_eq_true, Bool.not_true, Bool.not_false, true_and, and_true, beq_self_eq_true, String.reduceBEq, List.length_map, List.length_set, updM_same, updM_updM, List.append_nil, Int.zero_add, Int.toNat_natCast, rangeD_len, pairsD_len, numD_len, Nat.min_self, atI_zero, decide_true, decide_false, Bool.not_eq_true, bne_self_eq_false]
  refine ⟨by decide, fun r h0 => ?_⟩
  have nbr : b ≠ r := fun z => by rw [z, h0] at hb; cases hb
  have hbr : ∀ o, updM Γ.M0 r o b = some .bag := fun o => by rw [updM_ne nbr]; exact hb
  refine ⟨b, 3, rfl, hbr _, by decide, by decide, fun d1 hd1 => ⟨b, 4, rfl, hbr _, by decide, by decide, fun d2 hd2 => ?_⟩⟩
  refine ⟨by decide, ?_⟩
  let J : Nat → ZEnv → Mh → Prop := fun i ρ M => ∃ (x3 x4 x5 : Option Dv) (L : List Int), ρ = [some (.ptr b), some (.int (n : Nat)), some (.ptr r), x3, x4, x5] ∧ IntO x3 ∧ IntO x4 ∧ IntO x5 ∧ M = updM Γ.M0 r (.lst (L.map Dv.int)) ∧ (∀ v ∈ L, 0 ≤ v ∧ v < (L.length : Nat)) ∧ i ≤ L.length ∧ L.length ≤ 4 * i
  refine zloop_inv J ⟨_, _, _, [], rfl, .inl rfl, .inl rfl, .inl rfl, rfl, (fun v hv => nomatch hv), Nat.le_refl _, Nat.le_refl _⟩ (fun i d ρ M N hd ⟨x3, x4, x5, L, e1, i3, i4, i5, e2, hL, l1, l2⟩ hN => ?_) (fun ρ M ⟨x3, x4, x5, L, e1, i3, i4, i5, e2, hL, l1, l2⟩ => ?_)
  · subst e1 e2
    obtain ⟨z, hz1, hz2, rfl⟩ : ∃ z : Nat, 1 ≤ z ∧ z ≤ 4 ∧ d = .int (z : Nat) := by
      match i, hd with
      | 0, hd => cases hd; exact ⟨2 + d1, by omega, by omega, by simp⟩
      | 1, hd => cases hd; exact ⟨1 + d2, by omega, by omega, by simp⟩
      | i + 2, hd => exact nomatch hd
    have hi : i < 2 := (List.getElem?_eq_some_iff.mp hd).1
    simp only [zVar, zC, zOp, zII, zIC, zEq, zNe, scalZ, zIs, zIsN, isNonD, zSS, zTest, zBool, zChain, zAnd, zOr, zNot, zAndV, zOrV, zNotV, zIfE, zNil, zCons, zTup, zLst, zLstP, zCB, z1, zLenD, z2I, zAbs, zDivmod, zInt, zList, zListP, zTuple, zSorted, zSet, zLenS, intsM, itemsM, zIsInst, isD, zBM, tyZ, zAppend, zExtend, zPop, zPopAt, zIndexS, zCount, zSum, zReverse, zSetI, zgSub, zNext, zSeq, zDrop, zRet, zRetN, zIfS, zgName, zgNil, zgCons, zgTup, zAsg, zFor, zForM, zComp, zCompP, zTupG, zAll, zSetC, zBlock, zCall, zTry, zRaise, zIsE, zstart, zEndsOf, ziTup, ziLst, ziStr, ziRng1, ziRng2, ziEnumK, ziZip, seqK, zoNone, zoSome, zSl, zSlT, zSlS, zSlL, zIx, zRangeT, zRangeL, zRangeP, zNeg, zTruth, truD, zCatT, zNoIf, zInI, zAllB, zGetR, zDIn, zMGet, lookD, nowK, keyD, zDNewK, zDNewT, zDisp1K, zDisp1T, zDPut, zLenK, zLenT, zRepT, zMulS, zCallL, List.getElem?_cons_zero, List.getElem?_cons_succ, List.map_cons, List.map_nil, List.nil_append, List.cons_append, List.length_cons, List.length_nil, List.replicate_succ, List.replicate_zero, List.set_cons_zero, List.set_cons_succ, Option.join_some, Nat.reduceAdd, Nat.reduceSub, Nat.sub_self, Nat.zero_add, if_true, if_false, Bool.false_eq_true, Bool.not_true, Bool.not_false, true_and, and_true, beq_self_eq_true, String.reduceBEq, zLoop, List.length_map, List.length_set, updM_same, updM_updM, List.append_nil, Int.zero_add, Int.toNat_natCast, rangeD_len, pairsD_len, numD_len, Nat.min_self, atI_zero, decide_true, decide_false, Bool.not_eq_true, bne_self_eq_false]
    refine ⟨by omega, by omega, ?_⟩
    refine zloop_inv (fun k ρ M => ∃ (x5 : Option Dv) (L2 : List Int), ρ = [some (.ptr b), some (.int (n : Nat)), some (.ptr r), some (.int (z : Nat)), some (.int (L.length : Nat)), x5] ∧ IntO x5 ∧ M = updM Γ.M0 r (.lst (L2.map Dv.int)) ∧ (∀ v ∈ L2, 0 ≤ v ∧ v < ((L.length + z : Nat) : Int)) ∧ L2.length = L.length + k)
      ⟨_, L, rfl, i5, rfl, fun v hv => by have := hL v hv; omega, rfl⟩ (fun k d ρ M N' hd ⟨x5, L2, e1, i5, e2, hL2, hl2⟩ hN' => ?_) (fun ρ M ⟨x5, L2, e1, i5, e2, hL2, hl2⟩ => ?_)
    · subst e1 e2
      obtain ⟨rfl, hk⟩ := rangeD_at hd
      simp only [zVar, zC, zOp, zII, zIC, zEq, zNe, scalZ, zIs, zIsN, isNonD, zSS, zTest, zBool, zChain, zAnd, zOr, zNot, zAndV, zOrV, zNotV, zIfE, zNil, zCons, zTup, zLst, zLstP, zCB, z1, zLenD, z2I, zAbs, zDivmod, zInt, zList, zListP, zTuple, zSorted, zSet, zLenS, intsM, itemsM, zIsInst, isD, zBM, tyZ, zAppend, zExtend, zPop, zPopAt, zIndexS, zCount, zSum, zReverse, zSetI, zgSub, zNext, zSeq, zDrop, zRet, zRetN, zIfS, zgName, zgNil, zgCons, zgTup, zAsg, zFor, zForM, zComp, zCompP, zTupG, zAll, zSetC, zBlock, zCall, zTry, zRaise, zIsE, zstart, zEndsOf, ziTup, ziLst, ziStr, ziRng1, ziRng2, ziEnumK, ziZip, seqK, zoNone, zoSome, zSl, zSlT, zSlS, zSlL, zIx, zRangeT, zRangeL, zRangeP, zNeg, zTruth, truD, zCatT, zNoIf, zInI, zAllB, zGetR, zDIn, zMGet, lookD, nowK, keyD, zDNewK, zDNewT, zDisp1K, zDisp1T, zDPut, zLenK, zLenT, zRepT, zMulS, zCallL, List.getElem?_cons_zero, List.getElem?_cons_succ, List.map_cons, List.map_nil, List.nil_append, List.cons_append, List.length_cons, List.length_nil, List.replicate_succ, List.replicate_zero, List.set_cons_zero, List.set_cons_succ, Option.join_some, Nat.reduceAdd, Nat.reduceSub, Nat.sub_self, Nat.zero_add, if_true, if_false, Bool.false_eq_true, Bool.not_true, Bool.not_false, true_and, and_true, beq_self_eq_true, String.reduceBEq, zLoop, List.length_map, List.length_set, updM_same, updM_updM, List.append_nil, Int.zero_add, Int.toNat_natCast, rangeD_len, pairsD_len, numD_len, Nat.min_self, atI_zero, decide_true, decide_false, Bool.not_eq_true, bne_self_eq_false]
      refine ⟨by omega, by omega, hN' _ _ ⟨_, L2 ++ [(L.length : Int) + ((k : Int) + 1) % (z : Int)], rfl, .inr ⟨_, rfl⟩, by rw [List.map_append]; rfl, fun v hv => ?_, by rw [List.length_append, hl2]; rfl⟩⟩
      rcases List.mem_append.mp hv with hv | hv
      · exact hL2 v hv
      · rw [List.mem_singleton] at hv
        subst hv
        have := Int.emod_nonneg ((k : Int) + 1) (show (z : Int) ≠ 0 by omega)
        have := Int.emod_lt_of_pos ((k : Int) + 1) (show (0 : Int) < z by omega)
        omega
    · subst e1 e2
      rw [rangeD_len] at hl2
      exact hN _ _ ⟨_, _, _, L2, rfl, .inr ⟨_, rfl⟩, .inr ⟨_, rfl⟩, i5, rfl, fun v hv => by have := hL2 v hv; omega, by omega, by omega⟩
  · subst e1 e2
    have l1 : 2 ≤ L.length := l1
    have l2 : L.length ≤ 8 := l2
    simp only [zVar, zC, zOp, zII, zIC, zEq, zNe, scalZ, zIs, zIsN, isNonD, zSS, zTest, zBool, zChain, zAnd, zOr, zNot, zAndV, zOrV, zNotV, zIfE, zNil, zCons, zTup, zLst, zLstP, zCB, z1, zLenD, z2I, zAbs, zDivmod, zInt, zList, zListP, zTuple, zSorted, zSet, zLenS, intsM, itemsM, zIsInst, isD, zBM, tyZ, zAppend, zExtend, zPop, zPopAt, zIndexS, zCount, zSum, zReverse, zSetI, zgSub, zNext, zSeq, zDrop, zRet, zRetN, zIfS, zgName, zgNil, zgCons, zgTup, zAsg, zFor, zForM, zComp, zCompP, zTupG, zAll, zSetC, zBlock, zCall, zTry, zRaise, zIsE, zstart, zEndsOf, ziTup, ziLst, ziStr, ziRng1, ziRng2, ziEnumK, ziZip, seqK, zoNone, zoSome, zSl, zSlT, zSlS, zSlL, zIx, zRangeT, zRangeL, zRangeP, zNeg, zTruth, truD, zCatT, zNoIf, zInI, zAllB, zGetR, zDIn, zMGet, lookD, nowK, keyD, zDNewK, zDNewT, zDisp1K, zDisp1T, zDPut, zLenK, zLenT, zRepT, zMulS, zCallL, List.getElem?_cons_zero, List.getElem?_cons_succ, List.map_cons, List.map_nil, List.nil_append, List.cons_append, List.length_cons, List.length_nil, List.replicate_succ, List.replicate_zero, List.set_cons_zero, List.set_cons_succ, Option.join_some, Nat.reduceAdd, Nat.reduceSub, Nat.sub_self, Nat.zero_add, if_true, if_false, Bool.false_eq_true, Bool.not_true, Bool.not_false, true_and, and_true, beq_self_eq_true, String.reduceBEq, zLoop, List.length_map, List.length_set, updM_same, updM_updM, List.append_nil, Int.zero_add, Int.toNat_natCast, rangeD_len, pairsD_len, numD_len, Nat.min_self, atI_zero, decide_true, decide_false, Bool.not_eq_true, bne_self_eq_false]
    refine ⟨b, 10 - (L.length : Nat), rfl, hbr _, by omega, by omega, fun t ht => ⟨by omega, by omega, ?_⟩⟩
    simp only [zVar, zC, zOp, zII, zIC, zEq, zNe, scalZ, zIs, zIsN, isNonD, zSS, zTest, zBool, zChain, zAnd, zOr, zNot, zAndV, zOrV, zNotV, zIfE, zNil, zCons, zTup, zLst, zLstP, zCB, z1, zLenD, z2I, zAbs, zDivmod, zInt, zList, zListP, zTuple, zSorted, zSet, zLenS, intsM, itemsM, zIsInst, isD, zBM, tyZ, zAppend, zExtend, zPop, zPopAt, zIndexS, zCount, zSum, zReverse, zSetI, zgSub, zNext, zSeq, zDrop, zRet, zRetN, zIfS, zgName, zgNil, zgCons, zgTup, zAsg, zFor, zForM, zComp, zCompP, zTupG, zAll, zSetC, zBlock, zCall, zTry, zRaise, zIsE, zstart, zEndsOf, ziTup, ziLst, ziStr, ziRng1, ziRng2, ziEnumK, ziZip, seqK, zoNone, zoSome, zSl, zSlT, zSlS, zSlL, zIx, zRangeT, zRangeL, zRangeP, zNeg, zTruth, truD, zCatT, zNoIf, zInI, zAllB, zGetR, zDIn, zMGet, lookD, nowK, keyD, zDNewK, zDNewT, zDisp1K, zDisp1T, zDPut, zLenK, zLenT, zRepT, zMulS, zCallL, List.getElem?_cons_zero, List.getElem?_cons_succ, List.map_cons, List.map_nil, List.nil_append, List.cons_append, List.length_cons, List.length_nil, List.replicate_succ, List.replicate_zero, List.set_cons_zero, List.set_cons_succ, Option.join_some, Nat.reduceAdd, Nat.reduceSub, Nat.sub_self, Nat.zero_add, if_true, if_false, Bool.false_eq_true, Bool.not_true, Bool.not_false, true_and, and_true, beq_self_eq_true, String.reduceBEq, zLoop, List.length_map, List.length_set, updM_same, updM_updM, List.append_nil, Int.zero_add, Int.toNat_natCast, rangeD_len, pairsD_len, numD_len, Nat.min_self, atI_zero, decide_true, decide_false, Bool.not_eq_true, bne_self_eq_false]
    refine zloop_inv (fun k ρ M => ∃ (x5 : Option Dv) (L2 : List Int), ρ = [some (.ptr b), some (.int (n : Nat)), some (.ptr r), x3, x4, x5] ∧ IntO x5 ∧ M = updM Γ.M0 r (.lst (L2.map Dv.int)) ∧ (∀ v ∈ L2, 0 ≤ v ∧ v < (L2.length : Nat)) ∧ L2.length = L.length + k)
      ⟨_, L, rfl, i5, rfl, hL, rfl⟩ (fun k d ρ M N' hd ⟨x5, L2, e1, i5, e2, hL2, hl2⟩ hN' => ?_) (fun ρ M ⟨x5, L2, e1, i5, e2, hL2, hl2⟩ => ?_)
    · subst e1 e2
      obtain ⟨rfl, hk⟩ := rangeD_at hd
      simp only [zVar, zC, zOp, zII, zIC, zEq, zNe, scalZ, zIs, zIsN, isNonD, zSS, zTest, zBool, zChain, zAnd, zOr, zNot, zAndV, zOrV, zNotV, zIfE, zNil, zCons, zTup, zLst, zLstP, zCB, z1, zLenD, z2I, zAbs, zDivmod, zInt, zList, zListP, zTuple, zSorted, zSet, zLenS, intsM, itemsM, zIsInst, isD, zBM, tyZ, zAppend, zExtend, zPop, zPopAt, zIndexS, zCount, zSum, zReverse, zSetI, zgSub, zNext, zSeq, zDrop, zRet, zRetN, zIfS, zgName, zgNil, zgCons, zgTup, zAsg, zFor, zForM, zComp, zCompP, zTupG, zAll, zSetC, zBlock, zCall, zTry, zRaise, zIsE, zstart, zEndsOf, ziTup, ziLst, ziStr, ziRng1, ziRng2, ziEnumK, ziZip, seqK, zoNone, zoSome, zSl, zSlT, zSlS, zSlL, zIx, zRangeT, zRangeL, zRangeP, zNeg, zTruth, truD, zCatT, zNoIf, zInI, zAllB, zGetR, zDIn, zMGet, lookD, nowK, keyD, zDNewK, zDNewT, zDisp1K, zDisp1T, zDPut, zLenK, zLenT, zRepT, zMulS, zCallL, List.getElem?_cons_zero, List.getElem?_cons_succ, List.map_cons, List.map_nil, List.nil_append, List.cons_append, List.length_cons, List.length_nil, List.replicate_succ, List.replicate_zero, List.set_cons_zero, List.set_cons_succ, Option.join_some, Nat.reduceAdd, Nat.reduceSub, Nat.sub_self, Nat.zero_add, if_true, if_false, Bool.false_eq_true, Bool.not_true, Bool.not_false, true_and, and_true, beq_self_eq_true, String.reduceBEq, zLoop, List.length_map, List.length_set, updM_same, updM_updM, List.append_nil, Int.zero_add, Int.toNat_natCast, rangeD_len, pairsD_len, numD_len, Nat.min_self, atI_zero, decide_true, decide_false, Bool.not_eq_true, bne_self_eq_false]
      refine ⟨by omega, hN' _ _ ⟨_, L2 ++ [(L2.length : Int) - 1], rfl, .inr ⟨_, rfl⟩, by rw [List.map_append]; rfl, fun v hv => ?_, by rw [List.length_append, hl2]; rfl⟩⟩
      rw [List.length_append]
      show 0 ≤ v ∧ v < ((L2.length + 1 : Nat) : Int)
      rcases List.mem_append.mp hv with hv | hv
      · have := hL2 v hv
        omega
      · rw [List.mem_singleton] at hv
        omega
    · subst e1 e2
      rw [rangeD_len] at hl2
      refine .inr ⟨r, _, rfl, updM_same, h0, ?_⟩
      rw [dropM_updM h0]
      refine ⟨⟨fun i d hi => ?_, fun b o hb => .inl hb⟩, ?_⟩
      · match i, hi with
        | 0, hi => cases hi; exact .ptr (by rw [hb]; rfl)
        | 1, hi => cases hi; exact .int _
        | 2, hi => cases hi; exact .lst (pin_ints _)
        | 3, hi => exact i3.pin (Option.some.inj hi)
        | 4, hi => exact i4.pin (Option.some.inj hi)
        | 5, hi => exact i5.pin (Option.some.inj hi)
        | i + 6, hi => exact nomatch hi
      · simp only [zVar, zC, zOp, zII, zIC, zEq, zNe, scalZ, zIs, zIsN, isNonD, zSS, zTest, zBool, zChain, zAnd, zOr, zNot, zAndV, zOrV, zNotV, zIfE, zNil, zCons, zTup, zLst, zLstP, zCB, z1, zLenD, z2I, zAbs, zDivmod, zInt, zList, zListP, zTuple, zSorted, zSet, zLenS, intsM, itemsM, zIsInst, isD, zBM, tyZ, zAppend, zExtend, zPop, zPopAt, zIndexS, zCount, zSum, zReverse, zSetI, zgSub, zNext, zSeq, zDrop, zRet, zRetN, zIfS, zgName, zgNil, zgCons, zgTup, zAsg, zFor, zForM, zComp, zCompP, zTupG, zAll, zSetC, zBlock, zCall, zTry, zRaise, zIsE, zstart, zEndsOf, ziTup, ziLst, ziStr, ziRng1, ziRng2, ziEnumK, ziZip, seqK, zoNone, zoSome, zSl, zSlT, zSlS, zSlL, zIx, zRangeT, zRangeL, zRangeP, zNeg, zTruth, truD, zCatT, zNoIf, zInI, zAllB, zGetR, zDIn, zMGet, lookD, nowK, keyD, zDNewK, zDNewT, zDisp1K, zDisp1T, zDPut, zLenK, zLenT, zRepT, zMulS, zCallL, List.getElem?_cons_zero, List.getElem?_cons_succ, List.map_cons, List.map_nil, List.nil_append, List.cons_append, List.length_cons, List.length_nil, List.replicate_succ, List.replicate_zero, List.set_cons_zero, List.set_cons_succ, Option.join_some, Nat.reduceAdd, Nat.reduceSub, Nat.sub_self, Nat.zero_add, if_true, if_false, Bool.false_eq_true, Bool.not_true, Bool.not_false, true_and, and_true, beq_self_eq_true, String.reduceBEq, zLoop, List.length_map, List.length_set, updM_same, updM_updM, List.append_nil, Int.zero_add, Int.toNat_natCast, rangeD_len, pairsD_len, numD_len, Nat.min_self, atI_zero, decide_true, decide_false, Bool.not_eq_true, bne_self_eq_false]
        refine ⟨by omega, ?_⟩
        refine zmap_of (fun d => .tup (List.replicate n d)) (fun τ M => (∃ x, τ = [x, some (.int (n : Nat))]) ∧ M = Γ.M0) ⟨⟨_, rfl⟩, rfl⟩ (fun d hd τ M ⟨⟨x, e⟩, eM⟩ R hR => ?_) (fun τ M ⟨⟨x, e⟩, eM⟩ => ?_)
        · subst e eM
          simp only [zVar, zC, zOp, zII, zIC, zEq, zNe, scalZ, zIs, zIsN, isNonD, zSS, zTest, zBool, zChain, zAnd, zOr, zNot, zAndV, zOrV, zNotV, zIfE, zNil, zCons, zTup, zLst, zLstP, zCB, z1, zLenD, z2I, zAbs, zDivmod, zInt, zList, zListP, zTuple, zSorted, zSet, zLenS, intsM, itemsM, zIsInst, isD, zBM, tyZ, zAppend, zExtend, zPop, zPopAt, zIndexS, zCount, zSum, zReverse, zSetI, zgSub, zNext, zSeq, zDrop, zRet, zRetN, zIfS, zgName, zgNil, zgCons, zgTup, zAsg, zFor, zForM, zComp, zCompP, zTupG, zAll, zSetC, zBlock, zCall, zTry, zRaise, zIsE, zstart, zEndsOf, ziTup, ziLst, ziStr, ziRng1, ziRng2, ziEnumK, ziZip, seqK, zoNone, zoSome, zSl, zSlT, zSlS, zSlL, zIx, zRangeT, zRangeL, zRangeP, zNeg, zTruth, truD, zCatT, zNoIf, zInI, zAllB, zGetR, zDIn, zMGet, lookD, nowK, keyD, zDNewK, zDNewT, zDisp1K, zDisp1T, zDPut, zLenK, zLenT, zRepT, zMulS, zCallL, List.getElem?_cons_zero, List.getElem?_cons_succ, List.map_cons, List.map_nil, List.nil_append, List.cons_append, List.length_cons, List.length_nil, List.replicate_succ, List.replicate_zero, List.set_cons_zero, List.set_cons_succ, Option.join_some, Nat.reduceAdd, Nat.reduceSub, Nat.sub_self, Nat.zero_add, if_true, if_false, Bool.false_eq_true, Bool.not_true, Bool.not_false, true_and, and_true, beq_self_eq_true, String.reduceBEq, zLoop, List.length_map, List.length_set, updM_same, updM_updM, List.append_nil, Int.zero_add, Int.toNat_natCast, rangeD_len, pairsD_len, numD_len, Nat.min_self, atI_zero, decide_true, decide_false, Bool.not_eq_true, bne_self_eq_false]
          have ef : (List.replicate n [d]).flatten = List.replicate n d := by rcases hn with rfl | rfl <;> rfl
          rw [ef]
          refine ⟨by decide, ⟨by simp, by omega, by omega, by omega⟩, hR _ _ ⟨⟨_, rfl⟩, rfl⟩⟩
        · subst e eM
          have em : Dv.tup ((L2.map Dv.int).map fun d => .tup (List.replicate n d)) = eN (madeI n L2) := by
            show Dv.tup _ = Dv.tup ((madeI n L2).map eI)
            unfold madeI
            rw [List.map_map, List.map_map]
            congr 1
            refine List.map_congr_left fun p _ => ?_
            show Dv.tup (List.replicate n (Dv.int p)) = Dv.tup ((List.replicate n p).map Dv.int)
            rw [List.map_replicate]
          rw [em]
          exact .inl (q _ (made_ok hn (by omega) (by omega) hL2))
end
end My

set_option Elab.async false
set_option maxRecDepth 100000
set_option maxHeartbeats 4000000
namespace My
open PySem L2 PyProof.Rows
theorem mem_slice {z : Str} {lo hi : Option Int} {c : Nat} (h : c ∈ (Txt.slice z lo hi).cps.toList) : c ∈ z.cps.toList := by
  unfold Txt.slice at h
  split at h
  · exact h
  · have h' : c ∈ List.filterMap (fun x => z.cps[x]?) (Builtin.Str.strSliceIndices lo hi 1 z.length) := by simpa using h
    obtain ⟨i, _, e⟩ := List.mem_filterMap.mp h'
    exact List.mem_of_getElem? (i := i) (by rw [Array.getElem?_toList]; exact e)
theorem mem_rep {xs : Array Nat} {c : Nat} : ∀ (k : Nat) (acc : Array Nat), c ∈ ((List.replicate k xs).foldl (· ++ ·) acc).toList → c ∈ acc.toList ∨ c ∈ xs.toList
  | 0, acc, h => .inl h
  | k + 1, acc, h => by
    rw [List.replicate_succ, List.foldl_cons] at h
    rcases mem_rep k _ h with h | h
    · rw [Array.toList_append, List.mem_append] at h
      exact h
    · exact .inr h
theorem mem_mul {z : Str} {n : Int} {c : Nat} (h : c ∈ (Txt.mul z n).cps.toList) : c ∈ z.cps.toList := by
  unfold Txt.mul at h
  split at h
  · rw [show Str.empty.cps.toList = [] from rfl] at h
    cases h
  · split at h
    · exact h
    · rcases mem_rep _ _ h with h | h
      · cases h
      · exact h
theorem WordOf.slice {n : Nat} {z : Str} (h : WordOf n z) (lo hi : Option Int) : WordOf n (Txt.slice z lo hi) := fun c hc => h c (mem_slice hc)
theorem WordOf.mul {n : Nat} {z : Str} (h : WordOf n z) (k : Int) : WordOf n (Txt.mul z k) := fun c hc => h c (mem_mul hc)
theorem slice_to_len {z : Str} {u : Int} (h : 0 ≤ u) : ((Txt.slice z none (some u)).length : Int) ≤ u := by
  unfold Txt.slice
  have hi : ((Builtin.Str.strSliceIndices none (some u) 1 z.length).length : Int) ≤ u := by
    unfold Builtin.Str.strSliceIndices sliceRange
    simp only [show (1 : Int) > 0 by decide, if_true, List.length_map, List.length_range]
    split <;> (try split) <;> (try simp only [Int.ediv_one]) <;> omega
  split
  · rename_i hc
    have : (Builtin.Str.strSliceIndices none (some u) 1 z.length).length = z.length := by simpa using hc
    omega
  · have : (List.filterMap (fun x => z.cps[x]?) (Builtin.Str.strSliceIndices none (some u) 1 z.length)).toArray.size ≤ (Builtin.Str.strSliceIndices none (some u) 1 z.length).length := by
      rw [List.size_toArray]
      exact List.length_filterMap_le _ _
    show ((List.filterMap (fun x => z.cps[x]?) (Builtin.Str.strSliceIndices none (some u) 1 z.length)).toArray.size : Int) ≤ u
    omega
theorem wordOf_a {n : Nat} (hn : n = 2 ∨ n = 3) : WordOf n "a" := fun c hc => by
  rw [show ("a" : Str).cps.toList = [97] from by decide +kernel] at hc
  exact ⟨0, by omega, by simpa using hc⟩
theorem mulOk_mid {z : Str} {n : Int} (h1 : 1 ≤ n) (h2 : n ≤ 2000) (hz : z.length ≤ 1000) : MulOk z n := by
  have hm : z.length * n.toNat ≤ 1000 * 2000 := Nat.mul_le_mul hz (by omega)
  refine ⟨?_, fun _ _ => ?_, fun _ _ => ?_⟩
  · rw [decide_eq_false (by omega), decide_eq_false (by omega)]
    rfl
  · have : (2 ^ 63 - 1) / 2000 ≤ (2 ^ 63 - 1) / n := by
      refine Int.le_ediv_of_mul_le (by omega) ?_
      have := Int.mul_le_mul_of_nonneg_left h2 (show (0 : Int) ≤ (2 ^ 63 - 1) / 2000 by decide)
      exact Int.le_trans this (by decide)
    have h3 : (1000 : Int) ≤ (2 ^ 63 - 1) / 2000 := by decide
    omega
  · unfold Builtin.Str.tooLong
    refine decide_eq_false ?_
    have : (2000000 : Nat) ≤ sizeLine := by decide
    omega
theorem mul_len_le {z : Str} {n : Int} (h1 : 1 ≤ n) (h2 : n ≤ 2000) (hz : z.length ≤ 1000) : (Txt.mul z n).length ≤ sizeLine := by
  have := PyProof.Rows.len_mul z n
  have hm : z.length * n.toNat ≤ 1000 * 2000 := Nat.mul_le_mul hz (by omega)
  have h3 : ((z.length * n.toNat : Nat) : Int) = (z.length : Int) * n := by
    rw [Int.natCast_mul, Int.toNat_of_nonneg (by omega)]
  have : (2000000 : Nat) ≤ sizeLine := by decide
  split at * <;> omega
end My

set_option Elab.async false
set_option maxRecDepth 100000
set_option maxHeartbeats 4000000
namespace My
open PySem L2 PyProof.Rows
section
variable {P : Program} {w : World} {K : PySem.W.Frag} {mg : Str → Option Value} {base : Heap} {tb : Tbs}
theorem sc_law : FnScope ["_law_script", "_law_k", "_law_bag_here", "_law_net_here", "_law_word_here", "_law_loops", "_law_one", "_law_said", "_law_found"] ["_law_script"] (defScope s_law) := ⟨rfl, rfl, rfl, by decide +kernel, rfl, by decide +kernel, by decide +kernel⟩
theorem zne_self {d : Dv} {t : Dt} {M : Mh} {Q : ZK} (h : dtOf (now M d) = some t) (hp : dpD t ≤ 60) (q : Q (.bl false) M) : zEqD true d d M Q := by
  unfold zEqD
  rw [h]
  refine ⟨hp, ?_⟩
  rw [eqD_refl]
  exact q
theorem wordOf_bb {n : Nat} (hn : n = 2 ∨ n = 3) : WordOf n "bb" := fun c hc => by
  rw [show ("bb" : Str).cps.toList = [98, 98] from by decide +kernel] at hc
  exact ⟨1, by omega, by simpa using hc⟩

def SaidOk (n : Nat) (d : Dv) : Prop := ∃ net z, d = .tup [eN net, .str z] ∧ NetOk net n ∧ WordOf n z ∧ z.length ≤ 2000
theorem turns {n : Nat} {D : ZEnds} {ds : List Dv} {M : Mh} {a0 a1 a2 a3 a4 a5 x6 x7 x8 : Option Dv} (hds : ∀ d ∈ ds, SaidOk n d) (hN : ∀ x6 x7 x8, D.nx [a0, a1, a2, a3, a4, a5, x6, x7, x8] M) :
    zLoop (zgTup 2 (zgCons (zgName 6) (zgCons (zgName 7) zgNil))) (zSeq (zAsg (zCall zRound (fun _ _ => False) (zCons (zVar 6) (zCons (zVar 7) zNil))) (zgName 8)) (zIfS (zOr (zTest (zOp (zEqD true) (zVar 8) (zCall zDue (fun _ _ => False) (zCons (zVar 6) (zCons (zVar 7) zNil)))))
      (zTest (zOp (zEqD true) (zComp 1 [] (ziTup (zVar 8)) (zgName 0) (zTest (zCB zIsInst (zCons (zVar 0) (zCons (zC (Dv.raw (V.ty "bool"))) zNil)))) (zVar 0)) (zLst zNil)))) (zRet (zC (Dv.bl false))) zNext)) D ds [a0, a1, a2, a3, a4, a5, x6, x7, x8] M := by
  refine zloop_inv (fun i ρ M' => (∃ x6 x7 x8, ρ = [a0, a1, a2, a3, a4, a5, x6, x7, x8]) ∧ M' = M) ⟨⟨_, _, _, rfl⟩, rfl⟩ (fun i d ρ M' N hd ⟨⟨x6, x7, x8, e⟩, eM⟩ hN' => ?_) (fun ρ M' ⟨⟨x6, x7, x8, e⟩, eM⟩ => by subst e eM; exact hN _ _ _)
  subst e eM
  obtain ⟨net, z, rfl, O, hW, hl⟩ := hds d (List.mem_of_getElem? hd)
  simp only [zVar, zC, zOp, zII, zIC, zEq, zNe, scalZ, zIs, zIsN, isNonD, zSS, zTest, zBool, zChain, zAnd, zOr, zNot, zAndV, zOrV, zNotV, zIfE, zNil, zCons, zTup, zLst, zLstP, zCB, z1, zLenD, z2I, zAbs, zDivmod, zInt, zList, zListP, zTuple, zSorted, zSet, zLenS, intsM, itemsM, zIsInst, isD, zBM, tyZ, zAppend, zExtend, zPop, zPopAt, zIndexS, zCount, zSum, zReverse, zSetI, zgSub, zNext, zSeq, zDrop, zRet, zRetN, zIfS, zgName, zgNil, zgCons, zgTup, zAsg, zFor, zForM, zComp, zCompP, zTupG, zAll, zSetC, zBlock, zCall, zTry, zRaise, zIsE, zstart, zEndsOf, ziTup, ziLst, ziStr, ziRng1, ziRng2, ziEnumK, ziZip, seqK, zoNone, zoSome, zSl, zSlT, zSlS, zSlL, zIx, zRangeT, zRangeL, zRangeP, zNeg, zTruth, truD, zCatT, zNoIf, zInI, zAllB, zGetR, zDIn, zMGet, lookD, nowK, keyD, zDNewK, zDNewT, zDisp1K, zDisp1T, zDPut, zLenK, zLenT, zRepT, zMulS, zCallL, List.getElem?_cons_zero, List.getElem?_cons_succ, List.map_cons, List.map_nil, List.nil_append, List.cons_append, List.length_cons, List.length_nil, List.replicate_succ, List.replicate_zero, List.set_cons_zero, List.set_cons_succ, Option.join_some, Nat.reduceAdd, Nat.reduceSub, Nat.sub_self, Nat.zero_add, if_true, if_false, Bool.false_eq_true, Bool.not_true, Bool.not_false, true_and, and_true, beq_self_eq_true, String.reduceBEq, zLoop, List.length_map, List.length_set, updM_same, updM_updM, List.append_nil, Int.zero_add, Int.toNat_natCast, rangeD_len, pairsD_len, numD_len, Nat.min_self, atI_zero, decide_true, decide_false, Bool.not_eq_true, bne_self_eq_false]
  refine ⟨net, n, z, rfl, O, hW, hl, fun i j R => ?_⟩
  simp only [zVar, zC, zOp, zII, zIC, zEq, zNe, scalZ, zIs, zIsN, isNonD, zSS, zTest, zBool, zChain, zAnd, zOr, zNot, zAndV, zOrV, zNotV, zIfE, zNil, zCons, zTup, zLst, zLstP, zCB, z1, zLenD, z2I, zAbs, zDivmod, zInt, zList, zListP, zTuple, zSorted, zSet, zLenS, intsM, itemsM, zIsInst, isD, zBM, tyZ, zAppend, zExtend, zPop, zPopAt, zIndexS, zCount, zSum, zReverse, zSetI, zgSub, zNext, zSeq, zDrop, zRet, zRetN, zIfS, zgName, zgNil, zgCons, zgTup, zAsg, zFor, zForM, zComp, zCompP, zTupG, zAll, zSetC, zBlock, zCall, zTry, zRaise, zIsE, zstart, zEndsOf, ziTup, ziLst, ziStr, ziRng1, ziRng2, ziEnumK, ziZip, seqK, zoNone, zoSome, zSl, zSlT, zSlS, zSlL, zIx, zRangeT, zRangeL, zRangeP, zNeg, zTruth, truD, zCatT, zNoIf, zInI, zAllB, zGetR, zDIn, zMGet, lookD, nowK, keyD, zDNewK, zDNewT, zDisp1K, zDisp1T, zDPut, zLenK, zLenT, zRepT, zMulS, zCallL, List.getElem?_cons_zero, List.getElem?_cons_succ, List.map_cons, List.map_nil, List.nil_append, List.cons_append, List.length_cons, List.length_nil, List.replicate_succ, List.replicate_zero, List.set_cons_zero, List.set_cons_succ, Option.join_some, Nat.reduceAdd, Nat.reduceSub, Nat.sub_self, Nat.zero_add, if_true, if_false, Bool.false_eq_true, Bool.not_true, Bool.not_false, true_and, and_true, beq_self_eq_true, String.reduceBEq, zLoop, List.length_map, List.length_set, updM_same, updM_updM, List.append_nil, Int.zero_add, Int.toNat_natCast, rangeD_len, pairsD_len, numD_len, Nat.min_self, atI_zero, decide_true, decide_false, Bool.not_eq_true, bne_self_eq_false]
  refine ⟨net, n, z, rfl, O, hW, fun i' j' R' => ?_⟩
  obtain ⟨rfl, rfl⟩ := R.uniq R'
  refine zne_self (t := .tup [.int (j : Nat), .int ((i : Nat) - (j : Nat))]) rfl (Nat.le_of_ble_eq_true rfl) ?_
  simp only [zVar, zC, zOp, zII, zIC, zEq, zNe, scalZ, zIs, zIsN, isNonD, zSS, zTest, zBool, zChain, zAnd, zOr, zNot, zAndV, zOrV, zNotV, zIfE, zNil, zCons, zTup, zLst, zLstP, zCB, z1, zLenD, z2I, zAbs, zDivmod, zInt, zList, zListP, zTuple, zSorted, zSet, zLenS, intsM, itemsM, zIsInst, isD, zBM, tyZ, zAppend, zExtend, zPop, zPopAt, zIndexS, zCount, zSum, zReverse, zSetI, zgSub, zNext, zSeq, zDrop, zRet, zRetN, zIfS, zgName, zgNil, zgCons, zgTup, zAsg, zFor, zForM, zComp, zCompP, zTupG, zAll, zSetC, zBlock, zCall, zTry, zRaise, zIsE, zstart, zEndsOf, ziTup, ziLst, ziStr, ziRng1, ziRng2, ziEnumK, ziZip, seqK, zoNone, zoSome, zSl, zSlT, zSlS, zSlL, zIx, zRangeT, zRangeL, zRangeP, zNeg, zTruth, truD, zCatT, zNoIf, zInI, zAllB, zGetR, zDIn, zMGet, lookD, nowK, keyD, zDNewK, zDNewT, zDisp1K, zDisp1T, zDPut, zLenK, zLenT, zRepT, zMulS, zCallL, List.getElem?_cons_zero, List.getElem?_cons_succ, List.map_cons, List.map_nil, List.nil_append, List.cons_append, List.length_cons, List.length_nil, List.replicate_succ, List.replicate_zero, List.set_cons_zero, List.set_cons_succ, Option.join_some, Nat.reduceAdd, Nat.reduceSub, Nat.sub_self, Nat.zero_add, if_true, if_false, Bool.false_eq_true, Bool.not_true, Bool.not_false, true_and, and_true, beq_self_eq_true, String.reduceBEq, zLoop, List.length_map, List.length_set, updM_same, updM_updM, List.append_nil, Int.zero_add, Int.toNat_natCast, rangeD_len, pairsD_len, numD_len, Nat.min_self, atI_zero, decide_true, decide_false, Bool.not_eq_true, bne_self_eq_false, rndD, zMap]
  exact ⟨by decide, by decide, by decide, by decide, zne_self (t := .lst []) rfl (by decide) (hN' _ _ ⟨⟨_, _, _, rfl⟩, rfl⟩)⟩
theorem ok_law {f f1 f2 f3 f4 f5 f6 f7 : Addr} {fd fd1 fd2 fd3 fd4 fd5 fd6 fd7 : FuncData} (D : Df K mg "law" s_law ["_law_script"] f fd)
    (D__law_bag : Df K mg "_law_bag" s__law_bag ["_law_script", "_law_at"] f1 fd1) (G__law_bag : FnOk P w K mg base CX0 1 f1 fd1 ["_law_script", "_law_at"] (spZ P w K tb zBag))
    (D__law_net : Df K mg "_law_net" s__law_net ["_law_bag_here", "_law_most"] f2 fd2) (G__law_net : FnOk P w K mg base CX0 3 f2 fd2 ["_law_bag_here", "_law_most"] (spZ P w K tb zMade))
    (D__law_take : Df K mg "_law_take" s__law_take ["_law_bag_here", "_law_many"] f3 fd3) (G__law_take : FnOk P w K mg base CX0 1 f3 fd3 ["_law_bag_here", "_law_many"] (spZ P w K tb zTake))
    (D__law_word : Df K mg "_law_word" s__law_word ["_law_bag_here", "_law_net_here", "_law_most"] f4 fd4) (G__law_word : FnOk P w K mg base CX0 2 f4 fd4 ["_law_bag_here", "_law_net_here", "_law_most"] (spZ P w K tb zWordL))
    (D__law_due : Df K mg "_law_due" s__law_due ["_law_net_here", "_law_word_here"] f5 fd5) (G__law_due : FnOk P w K mg base CX0 2 f5 fd5 ["_law_net_here", "_law_word_here"] (spZ P w K tb zDue))
    (D__law_rings : Df K mg "_law_rings" s__law_rings ["_law_bag_here", "_law_ways"] f6 fd6) (G__law_rings : FnOk P w K mg base CX0 2 f6 fd6 ["_law_bag_here", "_law_ways"] (spZ P w K tb zRings))
    (D_comes_round : Df K mg "comes_round" s_comes_round ["net", "word"] f7 fd7) (G_comes_round : FnOk P w K mg base (CX1 P w) 12 f7 fd7 ["net", "word"] (spZ P w K tb zRound)) (bl : Bl mg) :
    FnOk P w K mg base CX0 13 f fd ["_law_script"] (spZ P w K tb zLaw) := by
  refine zdef D sc_law (fun ds M Q E ⟨ns, e, _⟩ => by rw [e]; rfl) fun A outer s E Γ ds Q' E' hP hw hK ht hr ⟨ns, e, hl, hM, q⟩ => ⟨_, (qss_cons (qs_for PassesOwn.never rfl (qi_range1 rfl bl.range_ (qa_cons (qe_callB (q_max2 rfl) rfl bl.max_ bt_max (qa_cons qe_int (qa_cons (qe_callB (q_min2 rfl) rfl bl.min_ bt_min (qa_cons qe_int (qa_cons (qe_callB (q_len (K := K) rfl hK) rfl bl.len_ PySem.boot_len (qa_cons (qv 0) qa_nil)) qa_nil))) qa_nil))) qa_nil)) (fun Γ2 eP ew eK et => by have hP := hP.trans eP.symm; have hw := hw.trans ew.symm; have hK := hK.trans eK.symm; have ht := ht.trans et.symm; exact ⟨(qg_name (i := 1) sc_law.nd rfl (Or.inl rfl)), (qss_cons (qs_set (i := 2) sc_law.nd rfl (Or.inl rfl) (qe_call G__law_bag (hr.mono (by decide)) rfl D__law_bag.mg D__law_bag.fn.kp D__law_bag.bd pass0 hP hw hK ht XR.none (qa_cons (qv 0) (qa_cons (qv 1) qa_nil))))
    (qss_cons (qs_set (i := 3) sc_law.nd rfl (Or.inl rfl) (qe_call G__law_net (hr.mono (by decide)) rfl D__law_net.mg D__law_net.fn.kp D__law_net.bd pass0 hP hw hK ht XR.none (qa_cons (qv 2) (qa_cons qe_int qa_nil))))
    (qss_cons (qs_set (i := 4) sc_law.nd rfl (Or.inl rfl) (qe_call G__law_word (hr.mono (by decide)) rfl D__law_word.mg D__law_word.fn.kp D__law_word.bd pass0 hP hw hK ht XR.none (qa_cons (qv 2) (qa_cons (qv 3) (qa_cons qe_int qa_nil)))))
    (qss_cons (qs_if (qt_cmpR q_eq (qe_call G__law_take (hr.mono (by decide)) rfl D__law_take.mg D__law_take.fn.kp D__law_take.bd pass0 hP hw hK ht XR.none (qa_cons (qv 2) (qa_cons qe_int qa_nil))) qe_int (nomark _))
      (qss_one (qs_set (i := 4) sc_law.nd rfl (Or.inl rfl) (qe_slice q_slS (qe_op q_mul_str (qe_op q_add_str (qv 4) qe_str) qe_int) qo_none (qo_some (qe_op q_add qe_int (qe_call G__law_take (hr.mono (by decide)) rfl D__law_take.mg D__law_take.fn.kp D__law_take.bd pass0 hP hw hK ht XR.none (qa_cons (qv 2) (qa_cons qe_int qa_nil))))))))
      qss_nil)
    (qss_cons (qs_set (i := 5) sc_law.nd rfl (Or.inl rfl) (qe_call G__law_rings (hr.mono (by decide)) rfl D__law_rings.mg D__law_rings.fn.kp D__law_rings.bd pass0 hP hw hK ht XR.none (qa_cons (qv 2) (qa_cons (qe_callB (q_len (K := K) rfl hK) rfl bl.len_ PySem.boot_len (qa_cons (qe_ix (q_ix (K := K) rfl) (qv 3) qe_int (fun _ _ => rfl)) qa_nil)) qa_nil))))
    (qss_one (qs_for PassesOwn.never rfl (qi_list (K := K) rfl (qe_lst (qa_cons (qe_tup (qa_cons (qv 3) (qa_cons (qv 4) qa_nil))) (qa_cons (qe_tup (qa_cons (qv 3) (qa_cons qe_str qa_nil))) (qa_cons (qe_tup (qa_cons (qv 3) (qa_cons qe_str qa_nil))) (qa_cons (qe_tup (qa_cons (qv 5) (qa_cons qe_str qa_nil))) (qa_cons (qe_tup (qa_cons (qv 5) (qa_cons qe_str qa_nil))) qa_nil))))))) (fun Γ2 eP ew eK et => by have hP := hP.trans eP.symm; have hw := hw.trans ew.symm; have hK := hK.trans eK.symm; have ht := ht.trans et.symm; exact ⟨(qg_tup (n := 2) rfl (qgs_cons (qg_name (i := 6) sc_law.nd rfl (Or.inl rfl)) (qgs_cons (qg_name (i := 7) sc_law.nd rfl (Or.inl rfl)) qgs_nil))), (qss_cons (qs_set (i := 8) sc_law.nd rfl (Or.inl rfl) (qe_call G_comes_round (hr.mono (by decide)) rfl D_comes_round.mg D_comes_round.fn.kp D_comes_round.bd passF hP hw hK ht XR.none (qa_cons (qv 6) (qa_cons (qv 7) qa_nil))))
    (qss_one (qs_if (QW.pt (qw_or (qt_cmpR (q_neD hr.units) (qv 8) (qe_call G__law_due (hr.mono (by decide)) rfl D__law_due.mg D__law_due.fn.kp D__law_due.bd pass0 hP hw hK ht XR.none (qa_cons (qv 6) (qa_cons (qv 7) qa_nil))) (nomark _)) (qw_or1 (qt_cmpR (q_neD hr.units) (qe_listcomp (N' := ["_law_number"]) (tn := 1) (idx := []) rfl (show BlockOk ["_law_script", "_law_k", "_law_bag_here", "_law_net_here", "_law_word_here", "_law_loops", "_law_one", "_law_said", "_law_found"] (defScope s_law) _ ["_law_number"] 1 [] from by decide +kernel) (qi_tup (K := K) rfl (qv 8)) (fun _ _ _ _ _ => (qg_name (i := 0) (show List.Nodup [("_law_number" : Str)] from by decide +kernel) rfl (Or.inl rfl))) (fun _ _ _ _ _ => (qif_one (qt_val (qe_callB (q_isinst (K := K) rfl) rfl bl.isinstance_ bt_isinstance (qa_cons (qv 0) (qa_cons (qe_bltn (v := .ty "bool") rfl bl.bool_ bt_bool rfl) qa_nil)))))) (fun _ _ _ _ _ => (qv 0))) (qe_lst qa_nil) (nomark _)))))
      (qss_one (qs_ret qe_bl))
      qss_nil)))⟩))))))))⟩))
    (qss_one (qs_ret qe_bl))), ?_⟩
  subst e
  have big : (3000 : Nat) < sizeLine := by decide
  simp only [zVar, zC, zOp, zII, zIC, zEq, zNe, scalZ, zIs, zIsN, isNonD, zSS, zTest, zBool, zChain, zAnd, zOr, zNot, zAndV, zOrV, zNotV, zIfE, zNil, zCons, zTup, zLst, zLstP, zCB, z1, zLenD, z2I, zAbs, zDivmod, zInt, zList, zListP, zTuple, zSorted, zSet, zLenS, intsM, itemsM, zIsInst, isD, zBM, tyZ, zAppend, zExtend, zPop, zPopAt, zIndexS, zCount, zSum, zReverse, zSetI, zgSub, zNext, zSeq, zDrop, zRet, zRetN, zIfS, zgName, zgNil, zgCons, zgTup, zAsg, zFor, zForM, zComp, zCompP, zTupG, zAll, zSetC, zBlock, zCall, zTry, zRaise, zIsE, zstart, zEndsOf, ziTup, ziLst, ziStr, ziRng1, ziRng2, ziEnumK, ziZip, seqK, zoNone, zoSome, zSl, zSlT, zSlS, zSlL, zIx, zRangeT, zRangeL, zRangeP, zNeg, zTruth, truD, zCatT, zNoIf, zInI, zAllB, zGetR, zDIn, zMGet, lookD, nowK, keyD, zDNewK, zDNewT, zDisp1K, zDisp1T, zDPut, zLenK, zLenT, zRepT, zMulS, zCallL, List.getElem?_cons_zero, List.getElem?_cons_succ, List.map_cons, List.map_nil, List.nil_append, List.cons_append, List.length_cons, List.length_nil, List.replicate_succ, List.replicate_zero, List.set_cons_zero, List.set_cons_succ, Option.join_some, Nat.reduceAdd, Nat.reduceSub, Nat.sub_self, Nat.zero_add, if_true, if_false, Bool.false_eq_true, Bool.not_true, Bool.not_false, true_and, and_true, beq_self_eq_true, String.reduceBEq, List.length_map, List.length_set, updM_same, updM_updM, List.append_nil, Int.zero_add, Int.toNat_natCast, rangeD_len, pairsD_len, numD_len, Nat.min_self, atI_zero, decide_true, decide_false, Bool.not_eq_true, bne_self_eq_false]
  refine ⟨by split <;> split <;> omega, by split <;> split <;> omega, ?_⟩
  refine zloop_inv (fun k ρ M => (∃ x1 x2 x3 x4 x5 x6 x7 x8, ρ = [some (.scr ns), x1, x2, x3, x4, x5, x6, x7, x8])) ⟨_, _, _, _, _, _, _, _, rfl⟩ (fun k d ρ M N hd ⟨x1, x2, x3, x4, x5, x6, x7, x8, e1⟩ hN => ?_) (fun ρ M _ => .inl (q _))
  subst e1
  obtain ⟨rfl, hk⟩ := rangeD_at hd
  have hk : k ≤ 8 := by split at hk <;> split at hk <;> omega
  simp only [zVar, zC, zOp, zII, zIC, zEq, zNe, scalZ, zIs, zIsN, isNonD, zSS, zTest, zBool, zChain, zAnd, zOr, zNot, zAndV, zOrV, zNotV, zIfE, zNil, zCons, zTup, zLst, zLstP, zCB, z1, zLenD, z2I, zAbs, zDivmod, zInt, zList, zListP, zTuple, zSorted, zSet, zLenS, intsM, itemsM, zIsInst, isD, zBM, tyZ, zAppend, zExtend, zPop, zPopAt, zIndexS, zCount, zSum, zReverse, zSetI, zgSub, zNext, zSeq, zDrop, zRet, zRetN, zIfS, zgName, zgNil, zgCons, zgTup, zAsg, zFor, zForM, zComp, zCompP, zTupG, zAll, zSetC, zBlock, zCall, zTry, zRaise, zIsE, zstart, zEndsOf, ziTup, ziLst, ziStr, ziRng1, ziRng2, ziEnumK, ziZip, seqK, zoNone, zoSome, zSl, zSlT, zSlS, zSlL, zIx, zRangeT, zRangeL, zRangeP, zNeg, zTruth, truD, zCatT, zNoIf, zInI, zAllB, zGetR, zDIn, zMGet, lookD, nowK, keyD, zDNewK, zDNewT, zDisp1K, zDisp1T, zDPut, zLenK, zLenT, zRepT, zMulS, zCallL, List.getElem?_cons_zero, List.getElem?_cons_succ, List.map_cons, List.map_nil, List.nil_append, List.cons_append, List.length_cons, List.length_nil, List.replicate_succ, List.replicate_zero, List.set_cons_zero, List.set_cons_succ, Option.join_some, Nat.reduceAdd, Nat.reduceSub, Nat.sub_self, Nat.zero_add, if_true, if_false, Bool.false_eq_true, Bool.not_true, Bool.not_false, true_and, and_true, beq_self_eq_true, String.reduceBEq, List.length_map, List.length_set, updM_same, updM_updM, List.append_nil, Int.zero_add, Int.toNat_natCast, rangeD_len, pairsD_len, numD_len, Nat.min_self, atI_zero, decide_true, decide_false, Bool.not_eq_true, bne_self_eq_false]
  refine ⟨ns, _, rfl, hl, by omega, by omega, fun b hb => ?_⟩
  refine ⟨b, 9, rfl, updM_same, by omega, by omega, fun net n O _ => ?_⟩
  have h9 := O.nine
  have h1 := O.one
  have hw3 := O.wid
  obtain ⟨r0, a0, al⟩ := net_at0 O
  simp only [zVar, zC, zOp, zII, zIC, zEq, zNe, scalZ, zIs, zIsN, isNonD, zSS, zTest, zBool, zChain, zAnd, zOr, zNot, zAndV, zOrV, zNotV, zIfE, zNil, zCons, zTup, zLst, zLstP, zCB, z1, zLenD, z2I, zAbs, zDivmod, zInt, zList, zListP, zTuple, zSorted, zSet, zLenS, intsM, itemsM, zIsInst, isD, zBM, tyZ, zAppend, zExtend, zPop, zPopAt, zIndexS, zCount, zSum, zReverse, zSetI, zgSub, zNext, zSeq, zDrop, zRet, zRetN, zIfS, zgName, zgNil, zgCons, zgTup, zAsg, zFor, zForM, zComp, zCompP, zTupG, zAll, zSetC, zBlock, zCall, zTry, zRaise, zIsE, zstart, zEndsOf, ziTup, ziLst, ziStr, ziRng1, ziRng2, ziEnumK, ziZip, seqK, zoNone, zoSome, zSl, zSlT, zSlS, zSlL, zIx, zRangeT, zRangeL, zRangeP, zNeg, zTruth, truD, zCatT, zNoIf, zInI, zAllB, zGetR, zDIn, zMGet, lookD, nowK, keyD, zDNewK, zDNewT, zDisp1K, zDisp1T, zDPut, zLenK, zLenT, zRepT, zMulS, zCallL, List.getElem?_cons_zero, List.getElem?_cons_succ, List.map_cons, List.map_nil, List.nil_append, List.cons_append, List.length_cons, List.length_nil, List.replicate_succ, List.replicate_zero, List.set_cons_zero, List.set_cons_succ, Option.join_some, Nat.reduceAdd, Nat.reduceSub, Nat.sub_self, Nat.zero_add, if_true, if_false, Bool.false_eq_true, Bool.not_true, Bool.not_false, true_and, and_true, beq_self_eq_true, String.reduceBEq, List.length_map, List.length_set, updM_same, updM_updM, List.append_nil, Int.zero_add, Int.toNat_natCast, rangeD_len, pairsD_len, numD_len, Nat.min_self, atI_zero, decide_true, decide_false, Bool.not_eq_true, bne_self_eq_false]
  refine ⟨b, net, n, 20, rfl, updM_same, O, by omega, fun z hz hW => ?_⟩
  refine ⟨b, 8, rfl, updM_same, by omega, by omega, fun d hd => ?_⟩
  simp only [zVar, zC, zOp, zII, zIC, zEq, zNe, scalZ, zIs, zIsN, isNonD, zSS, zTest, zBool, zChain, zAnd, zOr, zNot, zAndV, zOrV, zNotV, zIfE, zNil, zCons, zTup, zLst, zLstP, zCB, z1, zLenD, z2I, zAbs, zDivmod, zInt, zList, zListP, zTuple, zSorted, zSet, zLenS, intsM, itemsM, zIsInst, isD, zBM, tyZ, zAppend, zExtend, zPop, zPopAt, zIndexS, zCount, zSum, zReverse, zSetI, zgSub, zNext, zSeq, zDrop, zRet, zRetN, zIfS, zgName, zgNil, zgCons, zgTup, zAsg, zFor, zForM, zComp, zCompP, zTupG, zAll, zSetC, zBlock, zCall, zTry, zRaise, zIsE, zstart, zEndsOf, ziTup, ziLst, ziStr, ziRng1, ziRng2, ziEnumK, ziZip, seqK, zoNone, zoSome, zSl, zSlT, zSlS, zSlL, zIx, zRangeT, zRangeL, zRangeP, zNeg, zTruth, truD, zCatT, zNoIf, zInI, zAllB, zGetR, zDIn, zMGet, lookD, nowK, keyD, zDNewK, zDNewT, zDisp1K, zDisp1T, zDPut, zLenK, zLenT, zRepT, zMulS, zCallL, List.getElem?_cons_zero, List.getElem?_cons_succ, List.map_cons, List.map_nil, List.nil_append, List.cons_append, List.length_cons, List.length_nil, List.replicate_succ, List.replicate_zero, List.set_cons_zero, List.set_cons_succ, Option.join_some, Nat.reduceAdd, Nat.reduceSub, Nat.sub_self, Nat.zero_add, if_true, if_false, Bool.false_eq_true, Bool.not_true, Bool.not_false, true_and, and_true, beq_self_eq_true, String.reduceBEq, List.length_map, List.length_set, updM_same, updM_updM, List.append_nil, Int.zero_add, Int.toNat_natCast, rangeD_len, pairsD_len, numD_len, Nat.min_self, atI_zero, decide_true, decide_false, Bool.not_eq_true, bne_self_eq_false]
  have rest : ∀ (y : Str) (net2 : List (List Int)), NetOk net2 n → y.length ≤ 2000 → WordOf n y → ∀ d ∈ [Dv.tup [eN net, .str y], .tup [eN net, .str ""], .tup [eN net, .str "a"], .tup [eN net2, .str "a"], .tup [eN net2, .str "bb"]], SaidOk n d := fun y net2 O2 hy hWy d hd => by
    simp only [List.mem_cons, List.not_mem_nil, or_false] at hd
    rcases hd with rfl | rfl | rfl | rfl | rfl
    · exact ⟨net, y, rfl, O, hWy, hy⟩
    · exact ⟨net, _, rfl, O, wordOf_nil, by decide⟩
    · exact ⟨net, _, rfl, O, wordOf_a hw3, by decide⟩
    · exact ⟨net2, _, rfl, O2, wordOf_a hw3, by decide⟩
    · exact ⟨net2, _, rfl, O2, wordOf_bb hw3, by decide⟩
  refine ifB (fun h => ?_) (fun h => ?_)
  · have hza : (z ++ ("a" : Str)).length ≤ 1000 := by rw [strlen_app]; show z.length + 1 ≤ 1000; omega
    refine ⟨by show z.length + 1 ≤ sizeLine; omega, mulOk_mid (by decide) (by decide) hza, b, 2, rfl, updM_same, by decide, by decide, fun e he => ?_⟩
    simp only [zVar, zC, zOp, zII, zIC, zEq, zNe, scalZ, zIs, zIsN, isNonD, zSS, zTest, zBool, zChain, zAnd, zOr, zNot, zAndV, zOrV, zNotV, zIfE, zNil, zCons, zTup, zLst, zLstP, zCB, z1, zLenD, z2I, zAbs, zDivmod, zInt, zList, zListP, zTuple, zSorted, zSet, zLenS, intsM, itemsM, zIsInst, isD, zBM, tyZ, zAppend, zExtend, zPop, zPopAt, zIndexS, zCount, zSum, zReverse, zSetI, zgSub, zNext, zSeq, zDrop, zRet, zRetN, zIfS, zgName, zgNil, zgCons, zgTup, zAsg, zFor, zForM, zComp, zCompP, zTupG, zAll, zSetC, zBlock, zCall, zTry, zRaise, zIsE, zstart, zEndsOf, ziTup, ziLst, ziStr, ziRng1, ziRng2, ziEnumK, ziZip, seqK, zoNone, zoSome, zSl, zSlT, zSlS, zSlL, zIx, zRangeT, zRangeL, zRangeP, zNeg, zTruth, truD, zCatT, zNoIf, zInI, zAllB, zGetR, zDIn, zMGet, lookD, nowK, keyD, zDNewK, zDNewT, zDisp1K, zDisp1T, zDPut, zLenK, zLenT, zRepT, zMulS, zCallL, List.getElem?_cons_zero, List.getElem?_cons_succ, List.map_cons, List.map_nil, List.nil_append, List.cons_append, List.length_cons, List.length_nil, List.replicate_succ, List.replicate_zero, List.set_cons_zero, List.set_cons_succ, Option.join_some, Nat.reduceAdd, Nat.reduceSub, Nat.sub_self, Nat.zero_add, if_true, if_false, Bool.false_eq_true, Bool.not_true, Bool.not_false, true_and, and_true, beq_self_eq_true, String.reduceBEq, List.length_map, List.length_set, updM_same, updM_updM, List.append_nil, Int.zero_add, Int.toNat_natCast, rangeD_len, pairsD_len, numD_len, Nat.min_self, atI_zero, decide_true, decide_false, Bool.not_eq_true, bne_self_eq_false, a0, al, eI]
    refine ⟨mul_len_le (by decide) (by decide) hza, b, n, rfl, updM_same, hw3, fun net2 O2 => ?_⟩
    refine ⟨by decide, by decide, by decide, by decide, by decide, by decide, turns (rest _ net2 O2 ?_ (((hW.app (wordOf_a hw3)).mul _).slice _ _)) fun x6 x7 x8 => hN _ _ ⟨_, _, _, _, _, _, _, _, rfl⟩⟩
    have := slice_to_len (z := Txt.mul (z ++ ("a" : Str)) 2000) (u := 1999 + (e : Nat)) (by omega)
    omega
  · simp only [zVar, zC, zOp, zII, zIC, zEq, zNe, scalZ, zIs, zIsN, isNonD, zSS, zTest, zBool, zChain, zAnd, zOr, zNot, zAndV, zOrV, zNotV, zIfE, zNil, zCons, zTup, zLst, zLstP, zCB, z1, zLenD, z2I, zAbs, zDivmod, zInt, zList, zListP, zTuple, zSorted, zSet, zLenS, intsM, itemsM, zIsInst, isD, zBM, tyZ, zAppend, zExtend, zPop, zPopAt, zIndexS, zCount, zSum, zReverse, zSetI, zgSub, zNext, zSeq, zDrop, zRet, zRetN, zIfS, zgName, zgNil, zgCons, zgTup, zAsg, zFor, zForM, zComp, zCompP, zTupG, zAll, zSetC, zBlock, zCall, zTry, zRaise, zIsE, zstart, zEndsOf, ziTup, ziLst, ziStr, ziRng1, ziRng2, ziEnumK, ziZip, seqK, zoNone, zoSome, zSl, zSlT, zSlS, zSlL, zIx, zRangeT, zRangeL, zRangeP, zNeg, zTruth, truD, zCatT, zNoIf, zInI, zAllB, zGetR, zDIn, zMGet, lookD, nowK, keyD, zDNewK, zDNewT, zDisp1K, zDisp1T, zDPut, zLenK, zLenT, zRepT, zMulS, zCallL, List.getElem?_cons_zero, List.getElem?_cons_succ, List.map_cons, List.map_nil, List.nil_append, List.cons_append, List.length_cons, List.length_nil, List.replicate_succ, List.replicate_zero, List.set_cons_zero, List.set_cons_succ, Option.join_some, Nat.reduceAdd, Nat.reduceSub, Nat.sub_self, Nat.zero_add, if_true, if_false, Bool.false_eq_true, Bool.not_true, Bool.not_false, true_and, and_true, beq_self_eq_true, String.reduceBEq, List.length_map, List.length_set, updM_same, updM_updM, List.append_nil, Int.zero_add, Int.toNat_natCast, rangeD_len, pairsD_len, numD_len, Nat.min_self, atI_zero, decide_true, decide_false, Bool.not_eq_true, bne_self_eq_false, a0, al, eI]
    refine ⟨b, n, rfl, updM_same, hw3, fun net2 O2 => ?_⟩
    exact ⟨by decide, by decide, by decide, by decide, by decide, by decide, turns (rest _ net2 O2 (by omega) hW) fun x6 x7 x8 => hN _ _ ⟨_, _, _, _, _, _, _, _, rfl⟩⟩
end
end My

set_option Elab.async false
set_option maxRecDepth 100000
set_option maxHeartbeats 4000000
namespace My
open PySem L2 PyProof.Rows
theorem all_mk {l : PySem.W.OpenLaw} {w : World} {K : PySem.W.Frag} {h : Heap} {mg : Str → Option Value} {fa : Addr} {tabs lts : List Addr} {C_RoadError C_NoNet C_NoWord : Addr} (X : K.In h) (G : h.Ns mainGlobals mg) (hfa : mg "law" = some (.ref fa))
    (T : Paired (TabOf mg h) ["is_row", "is_net", "is_word", "map_of", "comes_round"] tabs) (U : Paired (TabOf mg h) [] lts)
    (n_RoadError : PySem.W.nsIn K mainGlobals "RoadError" = some (some (.ref C_RoadError)))
    (n_NoNet : PySem.W.nsIn K mainGlobals "NoNet" = some (some (.ref C_NoNet)))
    (n_NoWord : PySem.W.nsIn K mainGlobals "NoWord" = some (some (.ref C_NoWord)))
    (eb : errsB K C_RoadError [C_NoNet, C_NoWord] = true) (ndc : [C_NoNet, C_NoWord].Nodup)
    (d_is_whole : DefIn K "is_whole" s_is_whole)
    (d_is_whole_below : DefIn K "is_whole_below" s_is_whole_below)
    (d_is_row : DefIn K "is_row" s_is_row)
    (d_is_net : DefIn K "is_net" s_is_net)
    (d_need_net : DefIn K "need_net" s_need_net)
    (d_signs_of : DefIn K "signs_of" s_signs_of)
    (d_all_places : DefIn K "all_places" s_all_places)
    (d_is_word : DefIn K "is_word" s_is_word)
    (d_need_word : DefIn K "need_word" s_need_word)
    (d_end_of : DefIn K "end_of" s_end_of)
    (d_map_of : DefIn K "map_of" s_map_of)
    (d_comes_round : DefIn K "comes_round" s_comes_round)
    (d__law_bag : DefIn K "_law_bag" s__law_bag)
    (d__law_take : DefIn K "_law_take" s__law_take)
    (d__law_order : DefIn K "_law_order" s__law_order)
    (d__law_net : DefIn K "_law_net" s__law_net)
    (d__law_word : DefIn K "_law_word" s__law_word)
    (d__law_led : DefIn K "_law_led" s__law_led)
    (d__law_due : DefIn K "_law_due" s__law_due)
    (d__law_rings : DefIn K "_law_rings" s__law_rings)
    (d_law : DefIn K "law" s_law)
    (z_len : PySem.W.nsIn K mainGlobals "len" = some none)
    (z_range : PySem.W.nsIn K mainGlobals "range" = some none)
    (z_min : PySem.W.nsIn K mainGlobals "min" = some none)
    (z_max : PySem.W.nsIn K mainGlobals "max" = some none)
    (z_abs : PySem.W.nsIn K mainGlobals "abs" = some none)
    (z_list : PySem.W.nsIn K mainGlobals "list" = some none)
    (z_tuple : PySem.W.nsIn K mainGlobals "tuple" = some none)
    (z_int : PySem.W.nsIn K mainGlobals "int" = some none)
    (z_str : PySem.W.nsIn K mainGlobals "str" = some none)
    (z_bool : PySem.W.nsIn K mainGlobals "bool" = some none)
    (z_isinstance : PySem.W.nsIn K mainGlobals "isinstance" = some none)
    (z_all : PySem.W.nsIn K mainGlobals "all" = some none)
    (z_set : PySem.W.nsIn K mainGlobals "set" = some none)
    (z_sorted : PySem.W.nsIn K mainGlobals "sorted" = some none)
    (z_zip : PySem.W.nsIn K mainGlobals "zip" = some none)
    (z_enumerate : PySem.W.nsIn K mainGlobals "enumerate" = some none)
    (z_sum : PySem.W.nsIn K mainGlobals "sum" = some none)
    (z_reversed : PySem.W.nsIn K mainGlobals "reversed" = some none)
    (z_divmod : PySem.W.nsIn K mainGlobals "divmod" = some none)
    (z_any : PySem.W.nsIn K mainGlobals "any" = some none)
    (z_ValueError : PySem.W.nsIn K mainGlobals "ValueError" = some none)
    (t_SIGNS : ∃ tk, PySem.W.nsIn K mainGlobals "SIGNS" = some (some (.str "abc" tk)))
    (t_MOST_PLACES : ∃ tk, PySem.W.nsIn K mainGlobals "MOST_PLACES" = some (some (.int 9 tk)))
    (t_MOST_SIGNS_OF_WORD : ∃ tk, PySem.W.nsIn K mainGlobals "MOST_SIGNS_OF_WORD" = some (some (.int 2000 tk)))
    : ∃ fd : FuncData, (∀ (s : Shared) (v : Value), BindsTo s fd ⟨[v], []⟩ [("_law_script", v)]) ∧ ∀ base : Heap, K.In base → base.Ns mainGlobals mg → (∃ bm ob, BMod base mainGlobals mg bm ob) → (∀ c p, PySem.W.CodeHd h c p → PySem.W.CodeHd base c p) → FnOk l.prog w K mg base CX0 13 fa fd ["_law_script"] (spLaw K ⟨tabs, lts.zip []⟩) := by
  obtain ⟨f_is_whole, fd_is_whole, D_is_whole⟩ := d_is_whole.df X G ["thing"] fun _ _ _ _ _ _ us hl => match us, hl with | [_], _ => rfl
  obtain ⟨f_is_whole_below, fd_is_whole_below, D_is_whole_below⟩ := d_is_whole_below.df X G ["thing", "many"] fun _ _ _ _ _ _ us hl => match us, hl with | [_, _], _ => rfl
  obtain ⟨f_is_row, fd_is_row, D_is_row⟩ := d_is_row.df X G ["thing", "many", "width"] fun _ _ _ _ _ _ us hl => match us, hl with | [_, _, _], _ => rfl
  obtain ⟨f_is_net, fd_is_net, D_is_net⟩ := d_is_net.df X G ["thing"] fun _ _ _ _ _ _ us hl => match us, hl with | [_], _ => rfl
  obtain ⟨f_need_net, fd_need_net, D_need_net⟩ := d_need_net.df X G ["thing"] fun _ _ _ _ _ _ us hl => match us, hl with | [_], _ => rfl
  obtain ⟨f_signs_of, fd_signs_of, D_signs_of⟩ := d_signs_of.df X G ["net"] fun _ _ _ _ _ _ us hl => match us, hl with | [_], _ => rfl
  obtain ⟨f_all_places, fd_all_places, D_all_places⟩ := d_all_places.df X G ["net"] fun _ _ _ _ _ _ us hl => match us, hl with | [_], _ => rfl
  obtain ⟨f_is_word, fd_is_word, D_is_word⟩ := d_is_word.df X G ["net", "thing"] fun _ _ _ _ _ _ us hl => match us, hl with | [_, _], _ => rfl
  obtain ⟨f_need_word, fd_need_word, D_need_word⟩ := d_need_word.df X G ["net", "thing"] fun _ _ _ _ _ _ us hl => match us, hl with | [_, _], _ => rfl
  obtain ⟨f_end_of, fd_end_of, D_end_of⟩ := d_end_of.df X G ["net", "place", "word"] fun _ _ _ _ _ _ us hl => match us, hl with | [_, _, _], _ => rfl
  obtain ⟨f_map_of, fd_map_of, D_map_of⟩ := d_map_of.df X G ["net", "word"] fun _ _ _ _ _ _ us hl => match us, hl with | [_, _], _ => rfl
  obtain ⟨f_comes_round, fd_comes_round, D_comes_round⟩ := d_comes_round.df X G ["net", "word"] fun _ _ _ _ _ _ us hl => match us, hl with | [_, _], _ => rfl
  obtain ⟨f__law_bag, fd__law_bag, D__law_bag⟩ := d__law_bag.df X G ["_law_script", "_law_at"] fun _ _ _ _ _ _ us hl => match us, hl with | [_, _], _ => rfl
  obtain ⟨f__law_take, fd__law_take, D__law_take⟩ := d__law_take.df X G ["_law_bag_here", "_law_many"] fun _ _ _ _ _ _ us hl => match us, hl with | [_, _], _ => rfl
  obtain ⟨f__law_order, fd__law_order, D__law_order⟩ := d__law_order.df X G ["_law_bag_here", "_law_many"] fun _ _ _ _ _ _ us hl => match us, hl with | [_, _], _ => rfl
  obtain ⟨f__law_net, fd__law_net, D__law_net⟩ := d__law_net.df X G ["_law_bag_here", "_law_most"] fun _ _ _ _ _ _ us hl => match us, hl with | [_, _], _ => rfl
  obtain ⟨f__law_word, fd__law_word, D__law_word⟩ := d__law_word.df X G ["_law_bag_here", "_law_net_here", "_law_most"] fun _ _ _ _ _ _ us hl => match us, hl with | [_, _, _], _ => rfl
  obtain ⟨f__law_led, fd__law_led, D__law_led⟩ := d__law_led.df X G ["_law_net_here", "_law_place", "_law_word_here"] fun _ _ _ _ _ _ us hl => match us, hl with | [_, _, _], _ => rfl
  obtain ⟨f__law_due, fd__law_due, D__law_due⟩ := d__law_due.df X G ["_law_net_here", "_law_word_here"] fun _ _ _ _ _ _ us hl => match us, hl with | [_, _], _ => rfl
  obtain ⟨f__law_rings, fd__law_rings, D__law_rings⟩ := d__law_rings.df X G ["_law_bag_here", "_law_ways"] fun _ _ _ _ _ _ us hl => match us, hl with | [_, _], _ => rfl
  obtain ⟨f_law, fd_law, D_law⟩ := d_law.df X G ["_law_script"] fun _ _ _ _ _ _ us hl => match us, hl with | [_], _ => rfl
  have g_RoadError := PySem.W.mg_of X G n_RoadError
  have g_NoNet := PySem.W.mg_of X G n_NoNet
  have g_NoWord := PySem.W.mg_of X G n_NoWord
  have X_ := errs_of eb
  have m_NoNet : C_NoNet ∈ [C_NoNet, C_NoWord] := by simp
  have m_NoWord : C_NoWord ∈ [C_NoNet, C_NoWord] := by simp
  have e := hfa.symm.trans D_law.mg
  cases e
  have bl : Bl mg := ⟨PySem.W.mg_none_of X G z_len, PySem.W.mg_none_of X G z_range, PySem.W.mg_none_of X G z_min, PySem.W.mg_none_of X G z_max, PySem.W.mg_none_of X G z_abs, PySem.W.mg_none_of X G z_list, PySem.W.mg_none_of X G z_tuple, PySem.W.mg_none_of X G z_int, PySem.W.mg_none_of X G z_str, PySem.W.mg_none_of X G z_bool, PySem.W.mg_none_of X G z_isinstance, PySem.W.mg_none_of X G z_all, PySem.W.mg_none_of X G z_set, PySem.W.mg_none_of X G z_sorted, PySem.W.mg_none_of X G z_zip, PySem.W.mg_none_of X G z_enumerate, PySem.W.mg_none_of X G z_sum, PySem.W.mg_none_of X G z_reversed, PySem.W.mg_none_of X G z_divmod, PySem.W.mg_none_of X G z_any, PySem.W.mg_none_of X G z_ValueError⟩
  obtain ⟨tk_SIGNS, t_SIGNS⟩ := t_SIGNS
  have tx_SIGNS := PySem.W.mg_of X G t_SIGNS
  obtain ⟨tk_MOST_PLACES, t_MOST_PLACES⟩ := t_MOST_PLACES
  have tx_MOST_PLACES := PySem.W.mg_of X G t_MOST_PLACES
  obtain ⟨tk_MOST_SIGNS_OF_WORD, t_MOST_SIGNS_OF_WORD⟩ := t_MOST_SIGNS_OF_WORD
  have tx_MOST_SIGNS_OF_WORD := PySem.W.mg_of X G t_MOST_SIGNS_OF_WORD
  obtain ⟨p_is_row, tr_is_row, rfl, T_is_row, T⟩ := paired_cons T
  obtain ⟨p_is_net, tr_is_net, rfl, T_is_net, T⟩ := paired_cons T
  obtain ⟨p_is_word, tr_is_word, rfl, T_is_word, T⟩ := paired_cons T
  obtain ⟨p_map_of, tr_map_of, rfl, T_map_of, T⟩ := paired_cons T
  obtain ⟨p_comes_round, tr_comes_round, rfl, T_comes_round, T⟩ := paired_cons T
  cases T
  cases U
  refine ⟨fd_law, fun s v => D_law.bind1 s v (by intros; rfl), fun base _ _ hbm tr => ?_⟩
  obtain ⟨c_is_row, C_is_row⟩ := dfc_of D_is_row X T_is_row tr
  obtain ⟨c_is_net, C_is_net⟩ := dfc_of D_is_net X T_is_net tr
  obtain ⟨c_is_word, C_is_word⟩ := dfc_of D_is_word X T_is_word tr
  obtain ⟨c_map_of, C_map_of⟩ := dfc_of D_map_of X T_map_of tr
  obtain ⟨c_comes_round, C_comes_round⟩ := dfc_of D_comes_round X T_comes_round tr
  have hp_is_row : p_is_row ∈ (⟨[p_is_row, p_is_net, p_is_word, p_map_of, p_comes_round], []⟩ : Tbs) := by show _ ∈ [p_is_row, p_is_net, p_is_word, p_map_of, p_comes_round]; simp
  have hp_is_net : p_is_net ∈ (⟨[p_is_row, p_is_net, p_is_word, p_map_of, p_comes_round], []⟩ : Tbs) := by show _ ∈ [p_is_row, p_is_net, p_is_word, p_map_of, p_comes_round]; simp
  have hp_is_word : p_is_word ∈ (⟨[p_is_row, p_is_net, p_is_word, p_map_of, p_comes_round], []⟩ : Tbs) := by show _ ∈ [p_is_row, p_is_net, p_is_word, p_map_of, p_comes_round]; simp
  have hp_map_of : p_map_of ∈ (⟨[p_is_row, p_is_net, p_is_word, p_map_of, p_comes_round], []⟩ : Tbs) := by show _ ∈ [p_is_row, p_is_net, p_is_word, p_map_of, p_comes_round]; simp
  have hp_comes_round : p_comes_round ∈ (⟨[p_is_row, p_is_net, p_is_word, p_map_of, p_comes_round], []⟩ : Tbs) := by show _ ∈ [p_is_row, p_is_net, p_is_word, p_map_of, p_comes_round]; simp
  have G_is_net := ok_is_net (P := l.prog) (w := w) (tb := (⟨[p_is_row, p_is_net, p_is_word, p_map_of, p_comes_round], []⟩ : Tbs)) D_is_net C_is_net hp_is_net D_is_row C_is_row hp_is_row hbm D_is_whole_below D_is_whole bl tx_MOST_PLACES
  have G_need_net := ok_need_net D_need_net D_is_net G_is_net X_ m_NoNet g_NoNet
  have G_signs_of := ok_signs_of D_signs_of D_need_net G_need_net bl tx_SIGNS
  have G_is_word := ok_is_word D_is_word C_is_word hp_is_word hbm D_signs_of G_signs_of bl tx_MOST_SIGNS_OF_WORD
  have G_need_word := ok_need_word D_need_word D_is_word G_is_word X_ m_NoWord g_NoWord
  have G_end_of := ok_end_of (P := l.prog) (w := w) (base := base) (tb := (⟨[p_is_row, p_is_net, p_is_word, p_map_of, p_comes_round], []⟩ : Tbs)) D_end_of tx_SIGNS
  have G_all_places := ok_all_places (P := l.prog) (w := w) (base := base) (tb := (⟨[p_is_row, p_is_net, p_is_word, p_map_of, p_comes_round], []⟩ : Tbs)) D_all_places bl
  have G_map_of := ok_map_of D_map_of C_map_of hp_map_of hbm D_need_net G_need_net D_need_word G_need_word D_end_of G_end_of bl
  have G_comes_round := ok_comes_round D_comes_round C_comes_round hp_comes_round hbm D_map_of G_map_of D_all_places G_all_places bl
  have G_take := z_take (tb := (⟨[p_is_row, p_is_net, p_is_word, p_map_of, p_comes_round], []⟩ : Tbs)) (ok_law_take (P := l.prog) (w := w) (base := base) D__law_take)
  have G_net := z_net (tb := (⟨[p_is_row, p_is_net, p_is_word, p_map_of, p_comes_round], []⟩ : Tbs)) (ok_law_net (P := l.prog) (w := w) (base := base) D__law_net D__law_take D__law_order bl)
  have G_bag := z_bag (tb := (⟨[p_is_row, p_is_net, p_is_word, p_map_of, p_comes_round], []⟩ : Tbs)) (ok_law_bag (P := l.prog) (w := w) (base := base) D__law_bag bl)
  have G_word := ok_law_word D__law_word D__law_take G_take bl
  have G_due := ok_law_due (P := l.prog) (w := w) (base := base) (tb := (⟨[p_is_row, p_is_net, p_is_word, p_map_of, p_comes_round], []⟩ : Tbs)) D__law_due D__law_led bl
  have G_rings := ok_law_rings D__law_rings D__law_take G_take bl
  exact law_of (ok_law D_law D__law_bag G_bag D__law_net G_net D__law_take G_take D__law_word G_word D__law_due G_due D__law_rings G_rings D_comes_round G_comes_round bl)
theorem walk {l : PySem.W.OpenLaw} {q : Program} {loose : List Str} {XP : (Str → Option Value) → Heap → Prop} {YP : World → Heap → Prop} {d : DefRec} {K : Params → PySem.W.Frag} (hn : l.most = some 63) (hdf : d.params.defaults = [])
    (hKc : ∀ w : World, PySem.W.kb_classed (K w.params) = true) (hnm : ∀ y ∈ ((["is_row", "is_net", "is_word", "map_of", "comes_round"] : List Str) ++ ([] : List Str)), ∃ r ∈ recsOf q, r.name = y) (hdt : ∀ w : World, tabsDis (K w.params) ["is_row", "is_net", "is_word", "map_of", "comes_round"] [] = true) (hY : ∀ (w : World) (h : Heap), YP w h → (K w.params).In h)
    (F : ∀ (w : World) (mg : Str → Option Value) (fa : Addr) (h : Heap) (tabs lts : List Addr), (K w.params).In h → h.Ns mainGlobals mg → mg d.name = some (.ref fa) →
      Paired (TabOf mg h) ["is_row", "is_net", "is_word", "map_of", "comes_round"] tabs → Paired (TabOf mg h) [] lts →
      ∃ fd : FuncData, (∀ (s : Shared) (u : Value), BindsTo s fd ⟨[u], []⟩ [("_law_script", u)]) ∧
        ∀ base : Heap, (K w.params).In base → base.Ns mainGlobals mg → (∃ bm ob, BMod base mainGlobals mg bm ob) → (∀ c p, PySem.W.CodeHd h c p → PySem.W.CodeHd base c p) → FnOk l.prog w (K w.params) mg base CX0 13 fa fd ["_law_script"] (spLaw (K w.params) ⟨tabs, lts.zip []⟩)) :
    PySem.W.WalkO q loose XP YP l.row.toRowW d [] (fun f vs => PySem.call f vs) :=
  L2.walk_ofL (n := 63) (k := 13) (x := "_law_script") (CX := CX0) (sp := fun K tabs lts => spLaw K ⟨tabs, lts.zip []⟩) hn (by decide) hdf ⟨rfl, by decide, by decide⟩ hKc hnm hdt hY F (fun _ _ _ _ a ns hl hn hT hL hS => spLaw_of hl hn hT hL hS) fun _ _ _ _ z => z
end My

set_option Elab.async false
open PySem PySem.W PyProof.Rows L2
set_option maxRecDepth 100000 in
set_option maxHeartbeats 0 in
theorem PySem.Challenge.cw_roadcall_k19_words_come_round_holds : PySem.Challenge.rw_roadcall_k19_words_come_round.Holds := by
  w_on; o_law; k_head; (case hw => w_witness2)
  k_fill
  refine My.walk (l := PySem.Challenge.rw_roadcall_k19_words_come_round) rfl rfl (fun w => rfl) ?nms ?tdis (fun w h Y => PySem.W.kIn_of Y) ?F
  (case nms => exact recs_of (by decide +kernel))
  (case tdis => intro w; kernel_rfl)
  case F =>
    intro w mg fa h tabs lts KX G hmg T U
    refine' My.all_mk KX G hmg T U ?n_RoadError ?n_NoNet ?n_NoWord ?eb ?ndc ?d_is_whole ?d_is_whole_below ?d_is_row ?d_is_net ?d_need_net ?d_signs_of ?d_all_places ?d_is_word ?d_need_word ?d_end_of ?d_map_of ?d_comes_round ?d__law_bag ?d__law_take ?d__law_order ?d__law_net ?d__law_word ?d__law_led ?d__law_due ?d__law_rings ?d_law ?z_len ?z_range ?z_min ?z_max ?z_abs ?z_list ?z_tuple ?z_int ?z_str ?z_bool ?z_isinstance ?z_all ?z_set ?z_sorted ?z_zip ?z_enumerate ?z_sum ?z_reversed ?z_divmod ?z_any ?z_ValueError ?t_SIGNS ?t_MOST_PLACES ?t_MOST_SIGNS_OF_WORD
    (case n_RoadError => k_is)
    (case n_NoNet => k_is)
    (case n_NoWord => k_is)
    (case eb => kernel_rfl)
    (case ndc => decide)
    (case d_is_whole => refine' L2.defIn_mk ?a ?l ?c ?k; (case a => k_is); (case l => k_is); (case c => k_is); (case k => k_is))
    (case d_is_whole_below => refine' L2.defIn_mk ?a ?l ?c ?k; (case a => k_is); (case l => k_is); (case c => k_is); (case k => k_is))
    (case d_is_row => refine' L2.defIn_mk ?a ?l ?c ?k; (case a => k_is); (case l => k_is); (case c => k_is); (case k => k_is))
    (case d_is_net => refine' L2.defIn_mk ?a ?l ?c ?k; (case a => k_is); (case l => k_is); (case c => k_is); (case k => k_is))
    (case d_need_net => refine' L2.defIn_mk ?a ?l ?c ?k; (case a => k_is); (case l => k_is); (case c => k_is); (case k => k_is))
    (case d_signs_of => refine' L2.defIn_mk ?a ?l ?c ?k; (case a => k_is); (case l => k_is); (case c => k_is); (case k => k_is))
    (case d_all_places => refine' L2.defIn_mk ?a ?l ?c ?k; (case a => k_is); (case l => k_is); (case c => k_is); (case k => k_is))
    (case d_is_word => refine' L2.defIn_mk ?a ?l ?c ?k; (case a => k_is); (case l => k_is); (case c => k_is); (case k => k_is))
    (case d_need_word => refine' L2.defIn_mk ?a ?l ?c ?k; (case a => k_is); (case l => k_is); (case c => k_is); (case k => k_is))
    (case d_end_of => refine' L2.defIn_mk ?a ?l ?c ?k; (case a => k_is); (case l => k_is); (case c => k_is); (case k => k_is))
    (case d_map_of => refine' L2.defIn_mk ?a ?l ?c ?k; (case a => k_is); (case l => k_is); (case c => k_is); (case k => k_is))
    (case d_comes_round => refine' L2.defIn_mk ?a ?l ?c ?k; (case a => k_is); (case l => k_is); (case c => k_is); (case k => k_is))
    (case d__law_bag => refine' L2.defIn_mk ?a ?l ?c ?k; (case a => k_is); (case l => k_is); (case c => k_is); (case k => k_is))
    (case d__law_take => refine' L2.defIn_mk ?a ?l ?c ?k; (case a => k_is); (case l => k_is); (case c => k_is); (case k => k_is))
    (case d__law_order => refine' L2.defIn_mk ?a ?l ?c ?k; (case a => k_is); (case l => k_is); (case c => k_is); (case k => k_is))
    (case d__law_net => refine' L2.defIn_mk ?a ?l ?c ?k; (case a => k_is); (case l => k_is); (case c => k_is); (case k => k_is))
    (case d__law_word => refine' L2.defIn_mk ?a ?l ?c ?k; (case a => k_is); (case l => k_is); (case c => k_is); (case k => k_is))
    (case d__law_led => refine' L2.defIn_mk ?a ?l ?c ?k; (case a => k_is); (case l => k_is); (case c => k_is); (case k => k_is))
    (case d__law_due => refine' L2.defIn_mk ?a ?l ?c ?k; (case a => k_is); (case l => k_is); (case c => k_is); (case k => k_is))
    (case d__law_rings => refine' L2.defIn_mk ?a ?l ?c ?k; (case a => k_is); (case l => k_is); (case c => k_is); (case k => k_is))
    (case d_law => refine' L2.defIn_mk ?a ?l ?c ?k; (case a => k_is); (case l => k_is); (case c => k_is); (case k => k_is))
    (case z_len => k_is)
    (case z_range => k_is)
    (case z_min => k_is)
    (case z_max => k_is)
    (case z_abs => k_is)
    (case z_list => k_is)
    (case z_tuple => k_is)
    (case z_int => k_is)
    (case z_str => k_is)
    (case z_bool => k_is)
    (case z_isinstance => k_is)
    (case z_all => k_is)
    (case z_set => k_is)
    (case z_sorted => k_is)
    (case z_zip => k_is)
    (case z_enumerate => k_is)
    (case z_sum => k_is)
    (case z_reversed => k_is)
    (case z_divmod => k_is)
    (case z_any => k_is)
    (case z_ValueError => k_is)
    (case t_SIGNS => refine' L2.strIn_mk ?a; (case a => k_is))
    (case t_MOST_PLACES => refine' L2.intIn_mk ?a; (case a => k_is))
    (case t_MOST_SIGNS_OF_WORD => refine' L2.intIn_mk ?a; (case a => k_is))

